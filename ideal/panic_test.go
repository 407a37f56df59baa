package ideal_test

import (
	"math"
	"testing"

	"treadle/api"
)

// recovers is a function that recovers, and shows what it has recovered, and whether.
func recovers() api.Func {
	return fun(0, kinds(num, num), do(api.OpRecover, 0, 1), show(0), show(1), ret())
}

// thrower is a function that panics with n.
func thrower(n int) api.Func {
	return fun(0, kinds(num), cons(0, n), do(api.OpPanic, 0))
}

func TestPanicsWithAnyNumber(t *testing.T) {
	for _, n := range []int{0, 1, 5, -1, api.PanicDepth, -6, least, greatest} {
		r := begin(t, program(thrower(n)))
		r.steps(0, 2)
		r.shows([]api.Event{event(api.EvPanic, 0, n)})
		r.states(api.GDead)
		r.frames(0)
		r.refuses(0, api.ErrState)
		// It is recovered whatever its number, 0 too.
		expect(t, "a panic", outcomeOf(t, program(fun(0, kinds(num), with(api.OpDefer, 1), cons(0, n), do(api.OpPanic, 0)), recovers())), exits(n, 1))
	}
}

// The machine's own panics are recovered like others.
func TestThePanicsOfTheMachine(t *testing.T) {
	slots := kinds(num, num, ptr(box), ptr(nums), line(num), ref)
	for n, list := range map[int][][]api.Ins{
		api.PanicNil:   {the(do(api.OpLoad, 0, 2, 0)), the(do(api.OpStore, 2, 0, 0)), the(do(api.OpLoadX, 0, 3, 1)), the(do(api.OpStoreX, 3, 0, 1)), the(do(api.OpLen, 0, 3)), the(do(api.OpClose, 4)), the(do(api.OpGetRef, 0, 5)), the(do(api.OpSetRef, 5, 0))},
		api.PanicIndex: {the(cons(0, -1), do(api.OpNewArr, 3, nums, 0)), the(do(api.OpNewArr, 3, nums, 0), do(api.OpLoadX, 0, 3, 1)), the(do(api.OpNewArr, 3, nums, 0), do(api.OpStoreX, 3, 0, 1))},
		api.PanicDiv:   {the(do(api.OpDiv, 0, 0, 1)), the(do(api.OpMod, 0, 0, 1))},
		api.PanicChan:  {the(makeLine(4, 1), do(api.OpClose, 4), do(api.OpSend, 4, 0)), the(makeLine(4, 1), do(api.OpClose, 4), do(api.OpClose, 4)), the(makeLine(4, 1), do(api.OpClose, 4), sel(0, 0, 4, 0))},
		api.PanicDepth: {times(api.MaxCap, with(api.OpDefer, 2))},
	} {
		for _, code := range list {
			p := program(fun(0, slots, body(the(with(api.OpDefer, 1)), code, the(ret()))...), recovers(), fun(0, nil, ret()))
			expect(t, "a panic", outcomeOf(t, p), exits(n, 1))
			// What was put off doesn't recover.
			p.Funcs[0].Code[0] = with(api.OpDefer, 2)
			expect(t, "a panic", outcomeOf(t, p), panics(n))
		}
	}
}

func TestRecoverWithoutAPanic(t *testing.T) {
	// In a frame that was begun by the run's beginning, a call, a go, or at another one's end.
	tries := fun(0, kinds(num, num), cons(0, 5), cons(1, 5), do(api.OpRecover, 0, 1), show(0), show(1), ret())
	expect(t, "at the beginning", outcomeOf(t, program(tries)), exits(0, 0))
	for op, want := range map[int][]api.Event{api.OpCall: exits(0, 0), api.OpDefer: exits(0, 0), api.OpGo: prints(1, 0, 0)} {
		r := begin(t, program(fun(0, kinds(num), with(op, 1), do(api.OpYield), ret()), tries))
		r.steps(0, 1)
		if op == api.OpGo {
			r.steps(1, 6)
		} else {
			r.finish()
		}
		r.shows(want)
	}
}

func TestRecoverASecondTime(t *testing.T) {
	p := program(
		fun(0, kinds(num), with(api.OpDefer, 1), cons(0, 5), do(api.OpPanic, 0)),
		fun(0, kinds(num, num), do(api.OpRecover, 0, 1), show(0), show(1), do(api.OpRecover, 0, 1), show(0), show(1), ret()))
	expect(t, "recover", outcomeOf(t, p), exits(5, 1, 0, 0))
}

// A is written ahead of B.
func TestRecoverIntoOneSlot(t *testing.T) {
	p := program(fun(0, kinds(num), with(api.OpDefer, 1), cons(0, 5), do(api.OpPanic, 0)), fun(0, kinds(num), do(api.OpRecover, 0, 0), show(0), do(api.OpRecover, 0, 0), show(0), ret()))
	expect(t, "recover", outcomeOf(t, p), exits(1, 0))
}

// Only the frame that a panic has begun may recover: none that it calls, nor one that is begun at its end.
func TestRecoverInAnotherFrame(t *testing.T) {
	for _, op := range []int{api.OpCall, api.OpDefer} {
		p := program(fun(0, kinds(num), with(api.OpDefer, 1), cons(0, 5), do(api.OpPanic, 0)), fun(0, nil, with(op, 2), ret()), recovers())
		expect(t, "another frame", outcomeOf(t, p), panics(5, 0, 0))
	}
}

// Behind a call that it has made, the frame itself still may.
func TestRecoverBehindACall(t *testing.T) {
	p := program(
		fun(0, kinds(num), with(api.OpDefer, 1), cons(0, 5), do(api.OpPanic, 0)),
		fun(0, kinds(num, num), with(api.OpCall, 2), do(api.OpRecover, 0, 1), show(0), show(1), with(api.OpCall, 2), ret()),
		recovers())
	expect(t, "recover", outcomeOf(t, p), exits(0, 0, 5, 1, 0, 0))
}

// Who waits while it panics, or has the clock wake it, goes on panicking.
func TestSleepWhilePanicking(t *testing.T) {
	r := begin(t, program(fun(0, kinds(num), with(api.OpDefer, 1), cons(0, 5), do(api.OpPanic, 0)), fun(0, kinds(num, num), cons(0, 2), do(api.OpSleep, 0), do(api.OpRecover, 0, 1), show(0), show(1), ret())))
	r.steps(0, 5)
	r.states(api.GWaits)
	r.frames(2)
	r.tick(2)
	r.finish()
	r.shows(exits(5, 1))
}

// One goroutine's panic is nothing to another one.
func TestPanicsOfTwoGoroutines(t *testing.T) {
	r := begin(t, program(
		fun(0, kinds(num), with(api.OpGo, 1), with(api.OpDefer, 2), cons(0, 5), do(api.OpPanic, 0)),
		fun(0, kinds(num), with(api.OpDefer, 2), cons(0, 6), do(api.OpPanic, 0)),
		recovers()))
	r.steps(0, 4)
	r.steps(1, 3)
	r.frames(2, 2)
	r.steps(0, 1)
	r.steps(1, 3)
	r.shows(prints(1, 6, 1))
	r.steps(0, 2)
	r.steps(1, 1)
	r.states(api.GReady, api.GDead)
	r.steps(0, 1)
	r.shows(then(append(prints(1, 6, 1), prints(0, 5, 1)...), api.EvExit, 0, 0))
	// One recovers that doesn't panic, while the other one does.
	r = begin(t, program(
		fun(0, kinds(num), with(api.OpGo, 1), with(api.OpDefer, 2), cons(0, 5), do(api.OpPanic, 0)),
		fun(0, nil, with(api.OpDefer, 2), ret()),
		recovers()))
	r.steps(0, 4)
	r.steps(1, 6)
	r.shows(prints(1, 0, 0))
	r.finish()
	r.shows(then(append(prints(1, 0, 0), prints(0, 5, 1)...), api.EvExit, 0, 0))
}

func TestAPanicOfAnotherGoroutineEndsTheRun(t *testing.T) {
	r := begin(t, program(fun(0, nil, with(api.OpGo, 1), with(api.OpGo, 2), do(api.OpJump, 2)), fun(0, nil, with(api.OpDefer, 2), with(api.OpCall, 3), ret()), fun(0, kinds(num), show(0), ret()), thrower(-9)))
	r.steps(0, 2)
	r.steps(1, 3)
	r.frames(1, 2, 1)
	r.steps(1, 1)
	r.frames(1, 2, 1)
	r.steps(1, 1)
	r.shows(prints(1, 0))
	r.steps(1, 1)
	r.shows(then(prints(1, 0), api.EvPanic, 1, -9))
	r.states(api.GReady, api.GDead, api.GReady)
	r.frames(1, 0, 1)
	for g := range 3 {
		r.refuses(g, api.ErrState)
	}
	r.noNext(0, 1, 2)
}

// What is behind the panic, or behind the call in which it is, isn't executed.
func TestUnwindingThroughSeveralFrames(t *testing.T) {
	p := program(
		fun(0, kinds(num), cons(0, 1), with(api.OpDefer, 3, 0), with(api.OpCall, 1), show(0), ret()),
		fun(0, kinds(num), with(api.OpCall, 2), show(0), ret()),
		fun(0, kinds(num), cons(0, 2), with(api.OpDefer, 3, 0), cons(0, 3), with(api.OpDefer, 3, 0), with(api.OpCall, 4), show(0), ret()),
		shower(),
		fun(0, nil, with(api.OpCall, 5), ret()),
		thrower(7))
	r := begin(t, p)
	if got := deepest(r); got != 5 {
		t.Errorf("%d frames", got)
	}
	r.shows(panics(7, 3, 2, 1))
	// Step by step: how many frames there are behind the panic, and behind each call that was put off.
	r = begin(t, p)
	r.steps(0, 11)
	r.frames(5)
	for _, want := range []int{4, 4, 4, 4, 2, 2, 0} {
		r.steps(0, 1)
		r.frames(want)
	}
	r.shows(panics(7, 3, 2, 1))
}

// The frame whose call has recovered leaves, and the one that has called it goes on.
func TestRecoveredAboveTheCaller(t *testing.T) {
	p := program(
		fun(0, kinds(num), cons(0, 3), with(api.OpDefer, 4, 0), with(api.OpCall, 1), show(0), ret()),
		fun(0, kinds(num), with(api.OpDefer, 3), with(api.OpCall, 2), cons(0, 99), show(0), ret()),
		thrower(7),
		recovers(),
		shower())
	expect(t, "a panic", outcomeOf(t, p), exits(7, 1, 3, 3))
}

func TestResultsAreNoughtBehindARecover(t *testing.T) {
	p := program(
		fun(0, kinds(num, flt, ptr(box), line(num), num, ptr(box)),
			cons(0, 4), bits(1, math.Float64bits(3)), do(api.OpNew, 2, box), makeLine(3, 0), cons(4, 4), with(api.OpCall, 1, 4, 0, 1, 2, 3),
			show(0), show(1), do(api.OpPEq, 0, 2, 5), show(0), show(4), do(api.OpClose, 3), ret()),
		gives(1, kinds(num, flt, ptr(box), line(num)), kinds(num, flt, ptr(box), line(num)), with(api.OpDefer, 2), bits(1, math.Float64bits(5)), do(api.OpNew, 2, box), makeLine(3, 0), do(api.OpPanic, 0), ret(0, 1, 2, 3)),
		recovers())
	want := []api.Event{event(api.EvPrint, 0, 4), event(api.EvPrint, 0, 1), event(api.EvPrint, 0, 0), event(api.EvFloat, 0, 0), event(api.EvPrint, 0, 1), event(api.EvPrint, 0, 4), event(api.EvPanic, 0, api.PanicNil)}
	expect(t, "results", outcomeOf(t, p), want)
}

// Even what the frame has returned already is 0, if a call that it had put off panics and another one recovers.
func TestResultsThatWaitAreNoughtBehindARecover(t *testing.T) {
	p := program(
		fun(0, kinds(num, num), cons(0, 4), cons(1, 4), with(api.OpCall, 1, 0, 1), show(0), show(1), ret()),
		gives(0, kinds(num), kinds(num, num), with(api.OpDefer, 2), with(api.OpDefer, 3), cons(0, 8), ret(0, 0)),
		recovers(),
		thrower(6))
	expect(t, "results", outcomeOf(t, p), exits(6, 1, 0, 0))
	// But not if it is recovered within the call that was put off: then nobody unwinds what has returned.
	p.Funcs[1].Code = the(with(api.OpDefer, 4), cons(0, 8), ret(0, 0))
	p.Funcs = append(p.Funcs, fun(0, nil, with(api.OpDefer, 2), with(api.OpCall, 3), ret()))
	expect(t, "results", outcomeOf(t, p), exits(6, 1, 8, 8))
}

// Behind a recover the frame leaves at its end: what it has put off yet is begun by no panic.
func TestWhatWasPutOffBehindARecover(t *testing.T) {
	p := program(
		fun(0, kinds(num), with(api.OpCall, 1), cons(0, 4), show(0), ret()),
		fun(0, kinds(num), with(api.OpDefer, 2), with(api.OpDefer, 2), with(api.OpDefer, 2), cons(0, 5), do(api.OpPanic, 0)),
		recovers())
	expect(t, "calls put off", outcomeOf(t, p), exits(5, 1, 0, 0, 0, 0, 4))
	// One that doesn't recover leaves it to the next one.
	p.Funcs[1].Code = the(with(api.OpDefer, 2), with(api.OpDefer, 3, 0), with(api.OpDefer, 3, 0), cons(0, 5), do(api.OpPanic, 0))
	p.Funcs = append(p.Funcs, shower())
	expect(t, "calls put off", outcomeOf(t, p), exits(0, 0, 5, 1, 4))
}

// A panic in a call that was put off begins what the frame has put off yet, with the new number.
func TestAPanicAtAFramesEnd(t *testing.T) {
	p := program(
		fun(0, kinds(num), with(api.OpCall, 1), cons(0, 4), show(0), ret()),
		fun(0, kinds(num), with(api.OpDefer, 2), with(api.OpDefer, 3), ret()),
		recovers(),
		thrower(6))
	expect(t, "a panic", outcomeOf(t, p), exits(6, 1, 4))
	p.Funcs[1].Code = the(with(api.OpDefer, 3), with(api.OpDefer, 2), ret())
	expect(t, "a panic", outcomeOf(t, p), panics(6, 0, 0))
}

// A panic within a call that a panic has begun stands in the place of the first one.
func TestAPanicInThePlaceOfAnother(t *testing.T) {
	first := func(code ...api.Ins) api.Func {
		return fun(0, kinds(num), append(code, cons(0, 5), do(api.OpPanic, 0))...)
	}
	// In the call itself, and in one that it makes.
	for _, second := range []api.Func{thrower(6), fun(0, nil, with(api.OpCall, 3), ret()), fun(0, nil, with(api.OpDefer, 3), ret())} {
		p := program(first(with(api.OpDefer, 2), with(api.OpDefer, 1)), second, recovers(), thrower(6))
		expect(t, "a panic", outcomeOf(t, p), exits(6, 1))
		p.Funcs[0] = first(with(api.OpDefer, 1))
		expect(t, "a panic", outcomeOf(t, p), panics(6))
	}
	// Each of three in its place.
	p := program(first(with(api.OpDefer, 1), with(api.OpDefer, 2), with(api.OpDefer, 3)), thrower(8), thrower(7), thrower(6))
	expect(t, "four panics", outcomeOf(t, p), panics(8))
}

// The second one is recovered within the call: the first one is gone, too, and the call goes on where it stood.
func TestAPanicInThePlaceOfAnotherIsRecovered(t *testing.T) {
	p := program(
		fun(0, kinds(num), with(api.OpCall, 1), cons(0, 4), show(0), ret()),
		fun(0, kinds(num), with(api.OpDefer, 4), with(api.OpDefer, 2), cons(0, 5), do(api.OpPanic, 0)),
		fun(0, kinds(num, num), with(api.OpCall, 3), do(api.OpRecover, 0, 1), show(0), show(1), ret()),
		fun(0, kinds(num), with(api.OpDefer, 4), cons(0, 6), do(api.OpPanic, 0)),
		recovers())
	// 6 is recovered; then nobody panics; what was put off ahead is begun at the frame's end; the caller goes on.
	expect(t, "a panic", outcomeOf(t, p), exits(6, 1, 0, 0, 0, 0, 4))
}

// The second one is recovered in what was begun at the call's end.
func TestAPanicAtTheEndOfACallThatAPanicHasBegun(t *testing.T) {
	p := program(
		fun(0, kinds(num), with(api.OpCall, 1), cons(0, 4), show(0), ret()),
		fun(0, kinds(num), with(api.OpDefer, 2), cons(0, 5), do(api.OpPanic, 0)),
		fun(0, nil, with(api.OpDefer, 3), ret()),
		fun(0, kinds(num), with(api.OpDefer, 4), cons(0, 6), do(api.OpPanic, 0)),
		recovers())
	expect(t, "a panic", outcomeOf(t, p), exits(6, 1, 4))
	// Nothing is recovered there: behind that end the first one goes on.
	p.Funcs[3] = fun(0, kinds(num, num), do(api.OpRecover, 0, 1), show(0), show(1), ret())
	expect(t, "a panic", outcomeOf(t, p), panics(5, 0, 0))
}

// Behind a recover there may be a panic again, in the same call or in its frame's further ones.
func TestAPanicBehindARecover(t *testing.T) {
	again := fun(0, kinds(num, num), do(api.OpRecover, 0, 1), show(0), show(1), cons(0, 6), do(api.OpPanic, 0))
	p := program(fun(0, kinds(num), with(api.OpDefer, 1), with(api.OpDefer, 2), cons(0, 5), do(api.OpPanic, 0)), recovers(), again)
	expect(t, "a panic", outcomeOf(t, p), exits(5, 1, 6, 1))
	p.Funcs[0].Code = the(with(api.OpDefer, 2), cons(0, 5), do(api.OpPanic, 0))
	expect(t, "a panic", outcomeOf(t, p), panics(6, 5, 1))
	// The same call recovers its own panic's place: of a panic within a call that it makes behind its recover.
	p = program(
		fun(0, kinds(num), with(api.OpDefer, 1), cons(0, 5), do(api.OpPanic, 0)),
		fun(0, kinds(num, num), do(api.OpRecover, 0, 1), show(0), show(1), with(api.OpCall, 2), do(api.OpRecover, 0, 1), show(0), show(1), ret()),
		fun(0, kinds(num), with(api.OpDefer, 3), cons(0, 7), do(api.OpPanic, 0)),
		recovers())
	expect(t, "a panic", outcomeOf(t, p), exits(5, 1, 7, 1, 0, 0))
	// A goroutine that has recovered, and comes to its next frame's end, ends as if nothing had been.
	p = program(
		fun(0, kinds(num), with(api.OpCall, 1), with(api.OpCall, 1), ret()),
		fun(0, kinds(num), with(api.OpDefer, 2), cons(0, 5), do(api.OpPanic, 0)),
		recovers())
	expect(t, "two panics", outcomeOf(t, p), exits(5, 1, 5, 1))
}

// Calls that were put off by a call that a panic has begun are begun at its end, or by its own panic.
func TestWhatACallThatAPanicHasBegunPutsOff(t *testing.T) {
	p := program(
		fun(0, kinds(num), with(api.OpCall, 1), cons(0, 4), show(0), ret()),
		fun(0, kinds(num), with(api.OpDefer, 2), cons(0, 5), do(api.OpPanic, 0)),
		fun(0, kinds(num, num), cons(0, 1), with(api.OpDefer, 3, 0), do(api.OpRecover, 0, 1), with(api.OpDefer, 3, 0), show(1), ret()),
		shower())
	expect(t, "at its end", outcomeOf(t, p), exits(1, 5, 1, 4))
	p.Funcs[2] = fun(0, kinds(num, num), with(api.OpDefer, 4), cons(0, 1), with(api.OpDefer, 3, 0), cons(0, 9), do(api.OpPanic, 0))
	p.Funcs = append(p.Funcs, recovers())
	// It recovers in the call's own place: the call leaves, was begun by a panic, and nobody panics any more.
	expect(t, "by its panic", outcomeOf(t, p), exits(1, 9, 1, 4))
}

// A goroutine that isn't the first one ends by itself behind a recover.
func TestAGoroutineEndsBehindARecover(t *testing.T) {
	r := begin(t, program(fun(0, nil, with(api.OpGo, 1), do(api.OpJump, 1)), fun(0, kinds(num), with(api.OpDefer, 2), do(api.OpPanic, 0)), recovers()))
	r.steps(0, 1)
	r.steps(1, 6)
	r.shows(prints(1, 0, 1))
	r.states(api.GReady, api.GDead)
	r.frames(1, 0)
}
