package machine_test

import (
	"math/rand"
	"slices"
	"testing"

	"treadle/api"
	"treadle/draft"
	"treadle/ideal"
	"treadle/machine"
)

// light is a machine beside a run of layer 18 that takes the machine's moves now and then.
type light struct {
	t     testing.TB
	m     *machine.Machine
	d     *ideal.Ideal
	taken int
}

func newLight(t testing.TB, c api.Config, p api.Program) *light {
	t.Helper()
	d, fault := ideal.New(p)
	if d == nil {
		t.Fatalf("a program that is wrong: %v", fault)
	}
	return &light{t: t, m: begin(t, c, p), d: d}
}

// catchUp lets layer 18 take the moves that it hasn't taken, and holds what the machine tells against it.
func (x *light) catchUp() {
	x.t.Helper()
	moves := x.m.Moves()
	for _, move := range moves[x.taken:] {
		if e := take(x.d, move); e != api.OK {
			x.t.Fatalf("the move %v: %d", move, e)
		}
	}
	x.taken = len(moves)
	if got, want := x.m.Trace(), x.d.Trace(); !slices.Equal(got, want) || x.m.Ended() != x.d.Ended() {
		x.t.Fatalf("Trace: %v, want %v", got, want)
	}
	things, words := x.d.Reach()
	if s := x.m.Stats(); s.Objects < things || s.Words < words {
		x.t.Fatalf("Stats: %v, but %d with %d words are reached", s, things, words)
	}
}

// collect has the cycle under way ended, and then a whole one made, without a step: what there is then is what can be reached.
func (x *light) collect() {
	x.t.Helper()
	for x.m.Stats().Phase != 0 && x.m.Do(entry(api.EnWork, 0, 0)) {
	}
	before := x.m.Stats()
	x.m.Do(entry(api.EnCollect, 0, 0))
	n := 0
	for ; x.m.Stats().Phase != 0 && x.m.Do(entry(api.EnWork, n, 0)); n++ {
	}
	x.catchUp()
	if x.m.Ended() {
		return
	}
	if n > 2*before.Objects+3 {
		x.t.Errorf("a cycle of %d pieces, where there are %d objects", n, before.Objects)
	}
	things, words := x.d.Reach()
	if s := x.m.Stats(); s.Objects != things || s.Words != words || s.Cycles != before.Cycles+1 {
		x.t.Fatalf("behind a cycle: %v, want %d with %d words, and %d cycles", s, things, words, before.Cycles+1)
	}
}

// run tells entries as they are chosen, in which the collector has its part, until the run has ended, or so many times; now and then it has a whole cycle made.
func (x *light) run(choose draft.Chooser, most int) {
	x.t.Helper()
	for n := range most {
		e := api.Entry{Kind: draft.Of(choose, 0, 0, 0, 0, 0, 0, 0, api.EnTick, api.EnPreempt, api.EnWork, api.EnWork, api.EnWork, api.EnWork, api.EnCollect, api.EnScav), P: choose(8), Arg: uint64(choose(1 << 12))}
		if !x.m.Do(e) {
			break
		}
		if n%2000 == 0 {
			x.catchUp()
		}
		if choose(500) == 0 {
			x.collect()
		}
	}
	x.catchUp()
}

// lists is a program that makes a list of nodes with the numbers 1 to n, turns it round again and again, and prints the sum of the list, each number times its place, behind each turn.
func lists(n, turns int) api.Program {
	slots := kinds(ptr(node), ptr(node), ptr(node), num, num, num, num, num, ptr(node))
	return program(
		fun(0, slots,
			cons(3, n), cons(4, 1), cons(6, turns),
			// A node ahead of the list, with the number, which falls.
			do(api.OpNew, 1, node), do(api.OpStore, 1, 3, 0), do(api.OpStore, 1, 0, 2), do(api.OpMove, 0, 1), do(api.OpSub, 3, 3, 4), do(api.OpJumpZ, 3, 10), do(api.OpJump, 3),
			// It is turned round: from the slot 0 into the slot 1. Each time something is made that nobody keeps.
			do(api.OpMove, 1, 8), do(api.OpPEq, 5, 0, 8), do(api.OpJumpZ, 5, 14), do(api.OpJump, 20),
			do(api.OpNew, 2, node), do(api.OpLoad, 2, 0, 2), do(api.OpStore, 0, 1, 2), do(api.OpMove, 1, 0), do(api.OpMove, 0, 2), do(api.OpJump, 11),
			do(api.OpMove, 0, 1), do(api.OpMove, 1, 8), with(api.OpCall, 1, 0, 7), show(7), do(api.OpSub, 6, 6, 4), do(api.OpJumpZ, 6, 27), do(api.OpJump, 10), ret()),
		gives(1, kinds(ptr(node), num, num, num, num, ptr(node), num), kinds(num),
			cons(2, 1), do(api.OpPEq, 3, 0, 5), do(api.OpJumpZ, 3, 4), ret(4), do(api.OpAdd, 1, 1, 2), do(api.OpLoad, 6, 0, 0), do(api.OpMul, 6, 6, 1), do(api.OpAdd, 4, 4, 6), do(api.OpLoad, 0, 0, 2), do(api.OpJump, 1)))
}

// sums are what lists prints: with each turn the list falls, or rises.
func sums(n, turns int) []int {
	falls, rises := 0, 0
	for i := 1; i <= n; i++ {
		falls += i * (n + 1 - i)
		rises += i * i
	}
	var list []int
	for i := range turns {
		list = append(list, []int{falls, rises}[i%2])
	}
	return list
}

// trees is a program that grows a tree of nodes (in an array of two: the left one and the right one), so deep, by calls; then again and again it puts a new one in the place of the left half, makes that the right one, and prints how many nodes there are.
func trees(depth, turns int) api.Program {
	// The function 1 makes a tree of a depth; the function 2 counts one.
	return program(
		fun(0, kinds(ptr(nodes), num, num, num, ptr(node), num, ptr(node), num, num),
			cons(1, depth), cons(2, turns), cons(3, 1), with(api.OpCall, 1, 1, 4),
			do(api.OpSub, 5, 1, 3), with(api.OpCall, 1, 5, 6), do(api.OpStore, 4, 6, 2), with(api.OpCall, 2, 4, 7), show(7),
			do(api.OpNew, 4, node), do(api.OpStore, 4, 6, 2), with(api.OpCall, 2, 4, 7), show(7),
			do(api.OpSub, 2, 2, 3), do(api.OpJumpZ, 2, 16), do(api.OpJump, 4), ret()),
		gives(1, kinds(num, ptr(node), num, ptr(node), ptr(nodes), num, ptr(node)), kinds(ptr(node)),
			do(api.OpJumpZ, 0, 8), cons(2, 1), do(api.OpSub, 0, 0, 2), do(api.OpNew, 1, node), with(api.OpCall, 1, 0, 3), do(api.OpStore, 1, 3, 2), do(api.OpSet, gNode, 3), ret(1), ret(6)),
		gives(1, kinds(ptr(node), num, num, ptr(node), num), kinds(num),
			do(api.OpPEq, 2, 0, 3), do(api.OpJumpZ, 2, 3), ret(1), do(api.OpLoad, 0, 0, 2), cons(4, 1), with(api.OpCall, 2, 0, 1), do(api.OpAdd, 1, 1, 4), ret(1)))
}

// rings is a program of goroutines that hand nodes on in a ring of channels, of so many places: each adds 1 to each node's number, and puts another node in its place.
func rings(places, goroutines, rounds int) api.Program {
	carry := line(ptr(node))
	return program(
		fun(0, kinds(carry, carry, carry, num, num, ptr(node), num, num, num),
			makeLine(0, places), do(api.OpMove, 1, 0), cons(3, goroutines), cons(4, 1),
			makeLine(2, places), with(api.OpGo, 1, 1, 2), do(api.OpMove, 1, 2), do(api.OpSub, 3, 3, 4), do(api.OpJumpZ, 3, 10), do(api.OpJump, 4),
			cons(3, rounds), do(api.OpNew, 5, node), do(api.OpStore, 5, 3, 0), do(api.OpSend, 0, 5), do(api.OpNew, 5, node), do(api.OpRecv, 5, 1, 6), do(api.OpLoad, 7, 5, 0), do(api.OpAdd, 8, 8, 7), do(api.OpSub, 3, 3, 4), do(api.OpJumpZ, 3, 21), do(api.OpJump, 11),
			show(8), ret()),
		fun(2, kinds(carry, carry, ptr(node), num, num, ptr(node)),
			do(api.OpRecv, 2, 0, 3), cons(4, 1), do(api.OpLoad, 3, 2, 0), do(api.OpAdd, 3, 3, 4), do(api.OpNew, 5, node), do(api.OpStore, 5, 3, 0), do(api.OpMove, 2, 5), do(api.OpNew, 5, node), do(api.OpSend, 1, 2), do(api.OpJump, 0)))
}

// laters is a program whose objects are kept by nothing but calls that were put off, and results that wait; each call prints the number of its object.
func laters(times int) api.Program {
	return program(
		fun(0, kinds(num, num, ptr(node), num, ptr(node)),
			cons(0, times), cons(1, 1), with(api.OpCall, 1, 0, 2), do(api.OpLoad, 3, 2, 0), show(3), do(api.OpMove, 2, 4), do(api.OpSub, 0, 0, 1), do(api.OpJumpZ, 0, 9), do(api.OpJump, 2), ret()),
		gives(1, kinds(num, ptr(node), ptr(node), num, num), kinds(ptr(node)),
			do(api.OpNew, 1, node), do(api.OpStore, 1, 0, 0), with(api.OpDefer, 2, 1), cons(3, 100), do(api.OpAdd, 4, 0, 3), do(api.OpNew, 1, node), do(api.OpStore, 1, 4, 0), with(api.OpDefer, 2, 1), do(api.OpAdd, 4, 4, 3), do(api.OpNew, 1, node), do(api.OpStore, 1, 4, 0), ret(1)),
		// It makes what nobody keeps, ahead of it and behind it.
		fun(1, kinds(ptr(node), num, num, ptr(node)),
			cons(1, 12), cons(2, 1), do(api.OpNew, 3, node), do(api.OpSub, 1, 1, 2), do(api.OpJumpZ, 1, 6), do(api.OpJump, 2), do(api.OpLoad, 1, 0, 0), show(1), ret()))
}

// later are what laters prints.
func later(times int) []int {
	var list []int
	for n := times; n > 0; n-- {
		list = append(list, n+100, n, n+200)
	}
	return list
}

// halves are what trees prints.
func halves(depth, turns int) []int {
	var list []int
	for range turns {
		list = append(list, depth, depth)
	}
	return list
}

func TestWhatIsReachedIsKept(t *testing.T) {
	for name, c := range map[string]struct {
		p    api.Program
		want []int
	}{
		"lists":                    {lists(40, 12), sums(40, 12)},
		"a long list":              {lists(400, 3), sums(400, 3)},
		"trees":                    {trees(30, 10), halves(30, 10)},
		"rings without places":     {rings(0, 5, 60), []int{60*61/2 + 5*60}},
		"rings of two places":      {rings(2, 9, 60), []int{60*61/2 + 9*60}},
		"rings of MaxCap places":   {rings(api.MaxCap, 3, 100), []int{100*101/2 + 3*100}},
		"calls put off and others": {laters(40), later(40)},
	} {
		for seed := range int64(8) {
			choose := draft.Chooser(rand.New(rand.NewSource(seed)).Intn)
			config := api.Config{Procs: 1 + int(seed)%4, Pages: draft.Of(choose, 400, 1000, api.MaxPages), Gogc: draft.Of(choose, -1, 0, 10, 100), Limit: draft.Of[uint64](choose, 0, 0, 100)}
			x := newLight(t, config, c.p)
			x.run(choose, 200000)
			if got := x.m.Trace(); !slices.Equal(got, exits(c.want...)) {
				t.Errorf("%s: %v: %v, want %v", name, config, got, exits(c.want...))
			}
		}
	}
}

// What is reached in each of the ways is kept, and counted, and goes with what has led to it.
func TestBehindACycleThereIsWhatIsReached(t *testing.T) {
	slots := kinds(ptr(node), ptr(nums), line(ptr(node)), num, ptr(node), line(ptr(node)), ptr(nums))
	made := the(do(api.OpNew, 0, node), cons(3, 7), do(api.OpNewArr, 1, nums, 3), makeLine(2, 3), do(api.OpSend, 2, 0), do(api.OpNew, 0, node), do(api.OpSend, 2, 0))
	drop := the(do(api.OpMove, 0, 4), do(api.OpMove, 1, 6), do(api.OpMove, 2, 5))
	for name, c := range map[string]struct {
		p     api.Program
		words []int // behind how many steps of one goroutine there are how many words
	}{
		"slots":   {program(fun(0, slots, body(made, drop, the(do(api.OpJump, 10)))...)), []int{1, 5, 3, 13, 4, 18, 6, 23, 8, 18 + 5, 9, 15, 10, 0}},
		"globals": {program(fun(0, slots, body(made, the(do(api.OpSet, gNode, 0), do(api.OpSet, gNodeLine, 2)), drop, the(do(api.OpSet, gNode, 0), do(api.OpSet, gNodeLine, 2), do(api.OpJump, 14)))...)), []int{9, 23, 12, 15, 13, 15, 14, 0}},
		"calls put off": {program(
			fun(0, slots, body(made, the(with(api.OpDefer, 1, 0, 2)), drop, the(ret()))...),
			fun(2, kinds(ptr(node), line(ptr(node)), line(ptr(node))), do(api.OpMove, 1, 2), do(api.OpJump, 1))), []int{8, 23, 11, 15, 12, 15, 13, 5}},
		"results that wait": {program(
			fun(0, kinds(ptr(node)), with(api.OpCall, 1, 0), do(api.OpJump, 1)),
			gives(0, slots, kinds(ptr(node)), body(made, the(with(api.OpDefer, 2), ret(0)))...),
			fun(0, nil, do(api.OpYield), ret())), []int{10, 23, 11, 23, 12, 5}},
		"fields": {program(fun(0, slots,
			do(api.OpNew, 0, node), do(api.OpNew, 4, node), do(api.OpStore, 0, 4, 2), do(api.OpMove, 4, 0), do(api.OpLoad, 0, 4, 2), do(api.OpLoad, 4, 4, 2), do(api.OpStore, 0, 0, 2), do(api.OpLoad, 0, 4, 2), do(api.OpJump, 8))), []int{3, 10, 5, 10, 6, 5, 8, 5}},
		"an array of pointers": {program(fun(0, kinds(ptr(nodes), ptr(node), num, ptr(node)),
			cons(2, 3), do(api.OpNewArr, 0, nodes, 2), cons(2, 2), do(api.OpNew, 1, node), do(api.OpStoreX, 0, 1, 2), cons(2, 0), do(api.OpNew, 1, node), do(api.OpStoreX, 0, 1, 2), do(api.OpMove, 1, 3), do(api.OpStoreX, 0, 3, 2), do(api.OpJump, 10))), []int{2, 4, 8, 14, 9, 14, 10, 9}},
	} {
		x := newLight(t, wide(1), c.p)
		x.m.Do(step(0, 0))
		for n := 0; n < len(c.words); n += 2 {
			for len(x.m.Moves()) < c.words[n] {
				x.m.Do(step(0, 0))
			}
			x.collect()
			if got := x.m.Stats().Words; got != uint64(c.words[n+1]) {
				t.Errorf("%s: behind %d steps: %d words, want %d", name, c.words[n], got, c.words[n+1])
			}
		}
	}
}

// Ints and floats that are like pointers keep nothing, wherever they stand.
func TestIntsKeepNothing(t *testing.T) {
	for n := 1; n < 450; n++ {
		p := program(fun(0, kinds(num, flt, ptr(node), ptr(nums), line(num), ptr(box), ptr(box), ptr(node), ptr(nums), num),
			do(api.OpNew, 2, node), cons(9, 1), do(api.OpNewArr, 3, nums, 9), makeLine(4, 2), do(api.OpNew, 5, box),
			cons(0, n), bits(1, uint64(n)), do(api.OpSet, gNum, 0), do(api.OpStore, 2, 0, 0), do(api.OpStore, 2, 1, 1), cons(9, 0), do(api.OpStoreX, 3, 0, 9), do(api.OpSend, 4, 0), with(api.OpDefer, 1, 0), do(api.OpMove, 5, 6), do(api.OpJump, 15)), fun(1, kinds(num), ret()))
		x := newLight(t, wide(1), p)
		for range 17 {
			x.m.Do(step(0, 0))
		}
		x.collect()
		if s := x.m.Stats(); s.Objects != 3 || s.Words != 5+2+4 {
			t.Errorf("%d: %v", n, s)
		}
		// Received while a cycle marks, an int shades nothing.
		x.m.Do(entry(api.EnCollect, 0, 0))
	}
	for n := 1; n < 250; n++ {
		p := program(fun(0, kinds(line(num), num, num, ptr(box), ptr(box)), makeLine(0, 2), cons(1, n), do(api.OpSend, 0, 1), do(api.OpNew, 3, box), do(api.OpMove, 3, 4), do(api.OpRecv, 1, 0, 2), do(api.OpJump, 6)))
		x := newLight(t, wide(1), p)
		for range 6 {
			x.m.Do(step(0, 0))
		}
		x.m.Do(entry(api.EnCollect, 0, 0))
		x.m.Do(step(0, 0))
		for x.m.Stats().Phase != 0 {
			x.m.Do(entry(api.EnWork, 0, 0))
		}
		if s := x.m.Stats(); s.Objects != 1 {
			t.Errorf("%d: %v", n, s)
		}
	}
}

// A channel is what it was, however many were made and lost since.
func TestChannelsAreKnownForLong(t *testing.T) {
	p := program(fun(0, kinds(line(num), line(num), num, num, num),
		makeLine(0, 2), cons(2, 77), do(api.OpSend, 0, 2), cons(2, 3000), cons(3, 1),
		makeLine(1, 1), do(api.OpSub, 2, 2, 3), do(api.OpJumpZ, 2, 9), do(api.OpJump, 5), do(api.OpSend, 0, 3), do(api.OpRecv, 2, 0, 4), show(2), do(api.OpRecv, 2, 0, 4), show(2), ret()))
	for _, gogc := range []int{-1, 0, 100} {
		m := begin(t, api.Config{Procs: 1, Pages: api.MaxPages, Gogc: gogc}, p)
		for n := 0; m.Do(step(0, 0)); n++ {
			if n%500 == 0 {
				m.Do(entry(api.EnCollect, 0, 0))
			}
		}
		if got := m.Trace(); !slices.Equal(got, exits(77, 1)) {
			t.Errorf("Gogc %d: %v", gogc, got)
		}
	}
}

// Goroutines that are dead keep nothing, and those that are ready, wait or sleep keep what their frames lead to.
func TestDeadGoroutinesKeepNothing(t *testing.T) {
	keeper := func(last ...api.Ins) api.Func {
		return fun(0, kinds(ptr(node), num, line(num)), append(the(do(api.OpNew, 0, node), cons(1, 40)), last...)...)
	}
	deep := fun(1, ints(api.MaxSlots), cons(1, 1), do(api.OpSub, 0, 0, 1), do(api.OpJumpZ, 0, 4), with(api.OpCall, 7, 0), ret())
	p := program(
		fun(0, kinds(ptr(node), num, num), cons(1, 9), cons(2, 1), with(api.OpGo, 5), do(api.OpSub, 1, 1, 2), do(api.OpJumpZ, 1, 6), do(api.OpJump, 2), with(api.OpGo, 1), with(api.OpGo, 2), with(api.OpGo, 3), do(api.OpYield), do(api.OpJump, 9)),
		keeper(do(api.OpRecv, 1, 2, 1), ret()), keeper(cons(1, 1000), do(api.OpSleep, 1), ret()), keeper(with(api.OpCall, 4), ret()), keeper(do(api.OpYield), do(api.OpJump, 3)),
		// These die, by calls as deep as 41 frames.
		keeper(with(api.OpDefer, 6), ret()), keeper(with(api.OpCall, 7, 1), ret()), deep)
	x := newLight(t, wide(2), p)
	for n := range 8000 {
		x.m.Do(step(n, 0))
	}
	x.collect()
	gone := 0
	for g := range 13 {
		if x.m.State(g) == api.GDead {
			gone++
		}
	}
	if s := x.m.Stats(); s.Objects != 4 || s.Words != 20 || gone != 9 || s.StackMove < 9 {
		t.Errorf("%v, %d are dead", s, gone)
	}
	// Their stacks are gone, too, and those from which these were copied: with what is free given back, no more pages are mapped than the others have, and blocks.
	for range api.MaxPages / 64 {
		x.m.Do(entry(api.EnScav, 0, 63))
	}
	if s := x.m.Stats(); s.Mapped > 4+2*16 {
		t.Errorf("%v", s)
	}
}

// A processor that finds nothing works for the collector; so does EnWork; without a cycle they do nothing.
func TestWorkOfIdleProcessors(t *testing.T) {
	p := program(fun(0, kinds(ptr(node), ptr(node), num, num, num),
		cons(2, 30), cons(3, 1), do(api.OpNew, 1, node), do(api.OpStore, 1, 0, 2), do(api.OpMove, 0, 1), do(api.OpSub, 2, 2, 3), do(api.OpJumpZ, 2, 8), do(api.OpJump, 2), cons(2, greatest), do(api.OpSleep, 2), ret()))
	for _, procs := range []int{1, 3} {
		for _, kind := range []int{api.EnStep, api.EnWork} {
			r := newRig(t, wide(procs), p)
			for range 200 {
				r.do(step(0, 0))
			}
			r.states(waits)
			before := r.m.Stats()
			if before.Objects != 30 || before.Phase != 0 {
				t.Fatalf("%v", before)
			}
			for n := range 10 {
				r.do(entry(kind, n, 0))
			}
			if got := r.m.Stats(); got != before {
				t.Errorf("without a cycle: %v, want %v", got, before)
			}
			r.do(entry(api.EnCollect, 0, 0))
			pieces, last := 0, 1
			for ; r.m.Stats().Phase != 0; pieces++ {
				// A cycle that is under way goes on: it isn't begun anew.
				if pieces%5 == 0 {
					r.do(entry(api.EnCollect, 0, 0))
				}
				r.do(entry(kind, pieces, 0))
				if phase := r.m.Stats().Phase; phase != last && phase != last+1 && phase != 0 {
					t.Errorf("the phase %d behind %d", phase, last)
				} else {
					last = phase
				}
			}
			if got := r.m.Stats(); got.Cycles != before.Cycles+1 || got.Objects != 30 || pieces < 2 || pieces > 63 {
				t.Errorf("behind %d pieces: %v", pieces, got)
			}
		}
	}
}

// A cycle goes on while steps change what is reached: what it keeps, the next one frees.
func TestACycleInPiecesBetweenSteps(t *testing.T) {
	for pieces := range 12 {
		for _, p := range []api.Program{lists(12, 4), trees(8, 3), rings(1, 3, 9), laters(5)} {
			x := newLight(t, wide(1), p)
			for n := 0; x.m.Do(step(0, 0)); n++ {
				if n%7 == 3 {
					x.m.Do(entry(api.EnCollect, 0, 0))
				}
				if n%2 == 0 {
					for range pieces {
						x.m.Do(entry(api.EnWork, 0, 0))
					}
				}
				if n%50 == 0 {
					x.collect()
				}
			}
			x.catchUp()
		}
	}
}

// Stats tells the pacer's goal, and the cycles that begin by themselves as well as others.
func TestStats(t *testing.T) {
	garbage := program(loose(0, do(api.OpNew, 2, node)))
	for _, gogc := range []int{-1, 0, 100} {
		m := begin(t, api.Config{Procs: 1, Pages: api.MaxPages, Gogc: gogc}, garbage)
		if want := map[int]uint64{-1: 1<<64 - 1, 0: 256, 100: 256}[gogc]; m.Stats().Goal != want {
			t.Errorf("Gogc %d: %v", gogc, m.Stats())
		}
		for range 20000 {
			m.Do(step(0, 0))
		}
		if s := m.Stats(); (s.Cycles > 0) != (gogc >= 0) || s.Words != 5*uint64(s.Objects) || gogc < 0 && s.Objects != 9999 || gogc >= 0 && s.Words > 256+2*api.MaxWords {
			t.Errorf("Gogc %d: %v", gogc, s)
		}
	}
	m := begin(t, api.Config{Procs: 1, Pages: api.MaxPages, Gogc: -1, Limit: 77}, garbage)
	if s := m.Stats(); s.Goal != 77 {
		t.Errorf("%v", s)
	}
}

// moved is a program with an object that has the number 7 and is reached in one way; the next instructions move it to where it is reached in another one, and let the first way go. Behind that it prints the number.
type moved struct {
	p    api.Program
	at   int // how many instructions of the goroutine 0 are executed ahead
	next int // how many move it
}

// movesOfObjects are such programs.
func movesOfObjects() map[string]moved {
	slots := kinds(ptr(node), ptr(node), ptr(node), num, line(ptr(node)), ptr(nodes), num, line(ptr(node)))
	// The slot 0 leads to the object, 1 to nothing, 2 to another one; a channel of one place and an array of one element are there.
	first := the(cons(3, 7), do(api.OpNew, 0, node), do(api.OpStore, 0, 3, 0), do(api.OpNew, 2, node), makeLine(4, 1), cons(3, 1), do(api.OpNewArr, 5, nodes, 3), cons(3, 0), makeLine(7, 0))
	last := the(do(api.OpLoad, 3, 0, 0), show(3), ret())
	one := func(ahead, next []api.Ins) moved {
		return moved{program(fun(0, slots, body(first, ahead, next, last)...)), len(first) + len(ahead), len(next)}
	}
	drop := do(api.OpMove, 0, 1)
	put := do(api.OpStore, 2, 0, 2)
	fetch, cut := do(api.OpLoad, 0, 2, 2), do(api.OpStore, 2, 1, 2)
	call := func(slot int, ahead, next []api.Ins, others ...api.Func) moved {
		m := one(ahead, body(the(with(api.OpCall, 1, slot)), next))
		m.p.Funcs = append(m.p.Funcs, others...)
		return m
	}
	back := func(ins ...api.Ins) api.Func {
		return gives(0, kinds(ptr(node), ptr(node)), kinds(ptr(node)), body(ins, the(do(api.OpGet, 0, gNode), do(api.OpSet, gNode, 1), ret(0)))...)
	}
	forth := fun(1, kinds(ptr(node), ptr(node), num), do(api.OpMove, 1, 0), do(api.OpSet, gNode, 1), do(api.OpYield), ret())
	return map[string]moved{
		"from a place":               one(the(do(api.OpSend, 4, 0), drop), the(do(api.OpRecv, 0, 4, 3))),
		"from a place, by a select":  one(the(do(api.OpSend, 4, 0), drop), the(sel(3, 1, 7, 0, 1, 4, 0))),
		"from a closed channel":      one(the(do(api.OpSend, 4, 0), drop), the(do(api.OpClose, 4), do(api.OpRecv, 0, 4, 3))),
		"from place to place":        one(the(do(api.OpSend, 4, 0), drop), the(do(api.OpRecv, 0, 4, 3), do(api.OpSend, 4, 0), drop, do(api.OpRecv, 0, 4, 3))),
		"from a place to a field":    one(the(do(api.OpSend, 4, 0), drop), the(do(api.OpRecv, 0, 4, 3), put, drop, fetch, cut)),
		"from a field":               one(the(put, drop), the(fetch, cut)),
		"from a field to a place":    one(the(put, drop), the(fetch, cut, do(api.OpSend, 4, 0), drop, do(api.OpRecv, 0, 4, 3))),
		"from a field, with its own": one(the(put, drop), the(fetch, do(api.OpMove, 2, 1))),
		"from an element":            one(the(do(api.OpStoreX, 5, 0, 6), drop), the(do(api.OpLoadX, 0, 5, 6), do(api.OpStoreX, 5, 1, 6))),
		"from an element to a field": one(the(do(api.OpStoreX, 5, 0, 6), drop), the(do(api.OpLoadX, 0, 5, 6), do(api.OpStoreX, 5, 1, 6), put, drop, fetch, cut)),
		"from a global":              one(the(do(api.OpSet, gNode, 0), drop), the(do(api.OpGet, 0, gNode), do(api.OpSet, gNode, 1))),
		"from a slot to a global":    one(nil, the(do(api.OpSet, gNode, 0), drop, do(api.OpGet, 0, gNode), do(api.OpSet, gNode, 1))),
		"from a slot to a place":     one(nil, the(do(api.OpSend, 4, 0), drop, do(api.OpRecv, 0, 4, 3))),
		"from a slot to an element":  one(nil, the(do(api.OpStoreX, 5, 0, 6), drop, do(api.OpLoadX, 0, 5, 6), do(api.OpStoreX, 5, 1, 6))),
		"by a call":                  call(0, nil, the(drop, do(api.OpGet, 0, gNode), do(api.OpSet, gNode, 1)), forth),
		"by a call, from a field":    call(0, the(put), the(cut, drop, do(api.OpGet, 0, gNode), do(api.OpSet, gNode, 1)), forth),
		"by a result":                call(0, the(do(api.OpSet, gNode, 0), drop), nil, back()),
		"by a result that waits":     call(0, the(do(api.OpSet, gNode, 0), drop), nil, back(with(api.OpDefer, 2)), fun(0, nil, do(api.OpYield), ret())),
	}
}

// An object that is moved while a cycle marks, or sweeps, is kept: wherever it was when the cycle began, wherever it is, and however far the cycle has come.
func TestWhatIsMovedWhileACycleGoesOnIsKept(t *testing.T) {
	for name, c := range movesOfObjects() {
		for ahead := range 14 {
			for between := range 6 {
				r := newRig(t, wide(1), c.p)
				r.until(0, 0, c.at)
				r.do(entry(api.EnCollect, 0, 0))
				for range ahead {
					r.do(entry(api.EnWork, 0, 0))
				}
				for range c.next {
					moves := len(r.moves)
					for len(r.moves) == moves {
						r.do(step(0, 0))
					}
					for range between {
						r.do(entry(api.EnWork, 0, 0))
					}
				}
				for r.m.Stats().Phase != 0 {
					r.do(entry(api.EnWork, 0, 0))
				}
				if got := r.finish(40); !slices.Equal(got, exits(7)) {
					t.Errorf("%s: behind %d and %d pieces: %v", name, ahead, between, got)
				}
			}
		}
	}
}

// The same, where the object goes from one goroutine to another one.
func TestWhatIsHandedOnWhileACycleGoesOnIsKept(t *testing.T) {
	carry := line(ptr(node))
	get := func(ins ...api.Ins) api.Func {
		return fun(1, kinds(carry, ptr(node), num, num, carry), body(ins, the(do(api.OpYield), do(api.OpLoad, 2, 1, 0), show(2), stop(3)))...)
	}
	put := func(ins ...api.Ins) api.Func {
		return fun(1, kinds(carry, ptr(node), num, num, ptr(node), carry), body(the(cons(2, 7), do(api.OpNew, 1, node), do(api.OpStore, 1, 2, 0)), ins, the(do(api.OpMove, 1, 4), do(api.OpYield), do(api.OpJump, 3+len(ins)+1)))...)
	}
	for places := range 2 {
		for _, getter := range []api.Func{get(do(api.OpRecv, 1, 0, 2)), get(sel(2, 1, 4, 1, 1, 0, 1))} {
			for _, putter := range []api.Func{put(do(api.OpSend, 0, 1)), put(sel(2, 0, 0, 1, 0, 5, 1)), put(do(api.OpYield), do(api.OpSend, 0, 1))} {
				p := program(fun(0, kinds(carry), makeLine(0, places), with(api.OpGo, 1, 0), with(api.OpGo, 2, 0), do(api.OpYield), do(api.OpJump, 3)), putter, getter)
				for begun := range 24 {
					for pieces := range 4 {
						r := newRig(t, wide(1), p)
						for n := 0; n < 60 && !r.m.Ended(); n++ {
							if n == begun {
								r.do(entry(api.EnCollect, 0, 0))
							}
							r.do(step(0, 0))
							for range pieces {
								r.do(entry(api.EnWork, 0, 0))
							}
						}
						if got, want := r.m.Trace(), then(prints(2, 7), api.EvExit, 2, 0); !slices.Equal(got, want) {
							t.Errorf("%d places, %v, %v, a cycle behind %d steps, %d pieces: %v", places, putter.Code, getter.Code, begun, pieces, got)
						}
					}
				}
			}
		}
	}
}
