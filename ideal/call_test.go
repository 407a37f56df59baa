package ideal_test

import (
	"math"
	"testing"

	"treadle/api"
)

// down is a function that calls itself as often as its parameter tells; then it does the last instructions, in which the slots 2 and 3 are free. It stands at the number f.
func down(f int, last ...api.Ins) api.Func {
	first := the(do(api.OpJumpZ, 0, 5), cons(1, 1), do(api.OpSub, 0, 0, 1), with(api.OpCall, f, 0), ret())
	return fun(1, kinds(num, num, num, num), body(first, last, the(ret()))...)
}

// calls is a function 0 that calls down, so that there are so many frames at last.
func calls(frames int) api.Func {
	return fun(0, kinds(num), cons(0, frames-2), with(api.OpCall, 1, 0), show(0), ret())
}

// deepest lets goroutine 0 go on to its end, and answers how many frames it had at most.
func deepest(r run) int {
	most := 0
	for r.State(0) == api.GReady && !r.Ended() {
		r.steps(0, 1)
		most = max(most, r.Frames(0))
	}
	return most
}

func TestCallsAsDeepAsMaxDepth(t *testing.T) {
	for frames := 2; frames <= api.MaxDepth; frames++ {
		r := begin(t, program(calls(frames), down(1, show(0))))
		if got := deepest(r); got != frames {
			t.Errorf("%d frames, want %d", got, frames)
		}
		r.shows(exits(0, frames-2))
	}
	r := begin(t, program(calls(api.MaxDepth+1), down(1, show(0))))
	if got := deepest(r); got != api.MaxDepth {
		t.Errorf("%d frames", got)
	}
	r.shows(panics(api.PanicDepth))
	r.frames(0)
	r.states(api.GDead)
}

// In the deepest frame there is no room for a call, nor for one that is put off; a goroutine has frames of its own.
func TestTheDeepestFrame(t *testing.T) {
	shows := fun(0, kinds(num), cons(0, 3), show(0), ret())
	for op, want := range map[int][]api.Event{
		api.OpCall:  panics(api.PanicDepth),
		api.OpDefer: panics(api.PanicDepth),
		api.OpGo:    then(prints(0, 0, api.MaxDepth-2), api.EvExit, 0, 0),
	} {
		p := program(calls(api.MaxDepth), down(1, with(op, 2), show(0)), shows)
		expect(t, "the deepest frame", outcomeOf(t, p), want)
	}
	// The one below has room for what it has put off, which has none.
	for op, want := range map[int][]api.Event{
		api.OpCall:  panics(api.PanicDepth, 0, 5),
		api.OpDefer: panics(api.PanicDepth, 0, 5),
		api.OpYield: exits(0, 5, 6, api.MaxDepth-3),
	} {
		ins := do(op)
		if op != api.OpYield {
			ins = with(op, 3)
		}
		p := program(calls(api.MaxDepth-1), down(1, with(api.OpDefer, 2), show(0)), fun(0, kinds(num), cons(0, 5), show(0), ins, cons(0, 6), show(0), ret()), shows)
		r := begin(t, p)
		if got := deepest(r); got != api.MaxDepth {
			t.Errorf("%d frames", got)
		}
		r.shows(want)
	}
}

func TestDepthIsOfOneGoroutine(t *testing.T) {
	p := program(
		fun(0, kinds(num), cons(0, api.MaxDepth-1), with(api.OpGo, 1, 0), with(api.OpGo, 1, 0), do(api.OpJump, 3)),
		down(1, do(api.OpJump, 5)))
	r := begin(t, p)
	r.steps(0, 4)
	for g := 1; g <= 2; g++ {
		r.steps(g, 4*(api.MaxDepth-1)+3)
	}
	r.frames(1, api.MaxDepth, api.MaxDepth)
	r.shows(nil)
}

func TestArguments(t *testing.T) {
	p := program(
		fun(0, kinds(num, flt, ptr(box), line(num), num, ref),
			cons(0, 7), bits(1, math.Float64bits(2)), do(api.OpNew, 2, box), do(api.OpStore, 2, 0, 0), makeLine(3, 1), do(api.OpSend, 3, 0), do(api.OpAddr, 5, 4), cons(4, 9),
			with(api.OpCall, 1, 0, 1, 2, 3, 4, 5), show(0), show(4), ret()),
		fun(6, kinds(num, flt, ptr(box), line(num), num, ref, num, num),
			show(0), show(1), do(api.OpLoad, 6, 2, 0), show(6), do(api.OpRecv, 6, 3, 7), show(6), show(4), do(api.OpGetRef, 6, 5), show(6), cons(0, 1), cons(4, 2), do(api.OpSetRef, 5, 0), ret()))
	want := []api.Event{
		event(api.EvPrint, 0, 7), {Kind: api.EvFloat, Value: math.Float64bits(2)}, event(api.EvPrint, 0, 7), event(api.EvPrint, 0, 7), event(api.EvPrint, 0, 9), event(api.EvPrint, 0, 9),
		event(api.EvPrint, 0, 7), event(api.EvPrint, 0, 1), event(api.EvExit, 0, 0),
	}
	expect(t, "arguments", outcomeOf(t, p), want)
}

func TestResults(t *testing.T) {
	p := program(
		fun(0, kinds(num, num, flt, ptr(box), line(num), num),
			with(api.OpCall, 1, 5, 1, 2, 3, 4, 0), show(5), show(1), show(2), do(api.OpLoad, 5, 3, 0), show(5), do(api.OpRecv, 5, 4, 1), show(5), show(0), ret()),
		gives(1, kinds(num, num, flt, ptr(box), line(num)), kinds(num, flt, ptr(box), line(num), num),
			show(0), cons(0, 7), cons(1, 8), bits(2, math.Float64bits(2)), do(api.OpNew, 3, box), do(api.OpStore, 3, 0, 0), makeLine(4, 1), do(api.OpSend, 4, 1), ret(0, 2, 3, 4, 1)))
	want := []api.Event{
		event(api.EvPrint, 0, 0), event(api.EvPrint, 0, 0), event(api.EvPrint, 0, 7), {Kind: api.EvFloat, Value: math.Float64bits(2)},
		event(api.EvPrint, 0, 7), event(api.EvPrint, 0, 8), event(api.EvPrint, 0, 8), event(api.EvExit, 0, 0),
	}
	expect(t, "results", outcomeOf(t, p), want)
}

func TestOneSlotNamedTwiceInACall(t *testing.T) {
	p := program(
		fun(0, kinds(num, num),
			cons(0, 3), with(api.OpCall, 1, 0, 0, 1, 0), show(0), show(1),
			// Both results go to one slot: the last one stays. It is an argument, too.
			with(api.OpCall, 1, 0, 0, 1, 1), show(0), show(1), with(api.OpCall, 1, 0, 1, 0, 0), show(0), show(1),
			with(api.OpCall, 2, 0, 0), show(0), ret()),
		gives(2, kinds(num, num, num, num), kinds(num, num), show(0), show(1), do(api.OpAdd, 2, 0, 1), do(api.OpMul, 3, 0, 1), ret(2, 3)),
		gives(1, kinds(num), kinds(num), do(api.OpAdd, 0, 0, 0), ret(0)))
	expect(t, "calls", outcomeOf(t, p), exits(3, 3, 9, 6, 9, 9, 9, 81, 9, 81, 729, 81, 1458))
}

// Results are written where the frame is taken away, over what a reference has written meanwhile.
func TestResultsAreWrittenAtTheEnd(t *testing.T) {
	p := program(
		fun(0, kinds(num, ref), cons(0, 3), do(api.OpAddr, 1, 0), with(api.OpCall, 1, 1, 0), show(0), ret()),
		gives(1, kinds(ref, num), kinds(num), do(api.OpGetRef, 1, 0), show(1), cons(1, 5), do(api.OpSetRef, 0, 1), do(api.OpGetRef, 1, 0), show(1), cons(1, 6), ret(1)))
	expect(t, "a result", outcomeOf(t, p), exits(3, 5, 6))
}

func TestOneResultReturnedTwice(t *testing.T) {
	p := program(
		fun(0, kinds(num, num, num), with(api.OpCall, 1, 2, 0, 1), show(0), show(1), show(2), ret()),
		gives(0, kinds(num, num), kinds(num, num, num), cons(0, 4), cons(1, 5), ret(0, 1, 1)))
	expect(t, "results", outcomeOf(t, p), exits(5, 5, 4))
}

func TestACallGoesOnBehindIt(t *testing.T) {
	r := begin(t, program(fun(0, kinds(num), with(api.OpCall, 1), show(0), ret()), fun(0, nil, with(api.OpCall, 2), ret()), fun(0, nil, ret())))
	for _, want := range []struct {
		frames int
		next   api.Ins
	}{
		{1, with(api.OpCall, 1)}, {2, with(api.OpCall, 2)}, {3, ret()}, {2, ret()}, {1, show(0)}, {1, ret()},
	} {
		r.frames(want.frames)
		r.next(0, want.next)
		r.steps(0, 1)
	}
	r.frames(0)
	r.shows(exits(0))
}

func TestGo(t *testing.T) {
	r := begin(t, program(
		fun(0, kinds(num, flt, ptr(box), num), cons(0, 7), bits(1, math.Float64bits(2)), do(api.OpNew, 2, box), do(api.OpStore, 2, 0, 0), with(api.OpGo, 1, 0, 1, 2, 0), cons(0, 8), with(api.OpGo, 1, 0, 1, 2, 0), do(api.OpJump, 7)),
		fun(4, kinds(num, flt, ptr(box), num, num), show(0), show(1), do(api.OpLoad, 4, 2, 0), show(4), show(3), cons(4, 5), do(api.OpStore, 2, 4, 0), ret())))
	r.steps(0, 4)
	r.states(api.GReady)
	r.steps(0, 1)
	r.states(api.GReady, api.GReady)
	r.frames(1, 1, 0)
	r.next(1, show(0))
	r.next(0, cons(0, 8))
	r.steps(0, 2)
	r.states(api.GReady, api.GReady, api.GReady)
	r.steps(1, 8)
	of := func(g, n, field int) []api.Event {
		return []api.Event{event(api.EvPrint, g, n), {Kind: api.EvFloat, G: g, Value: math.Float64bits(2)}, event(api.EvPrint, g, field), event(api.EvPrint, g, n)}
	}
	r.shows(of(1, 7, 7))
	r.states(api.GReady, api.GDead, api.GReady)
	r.frames(1, 0, 1)
	// The object is one: the first goroutine has written into it.
	r.steps(2, 8)
	r.shows(append(of(1, 7, 7), of(2, 8, 5)...))
	r.states(api.GReady, api.GDead, api.GDead)
}

func TestMaxGsGoroutines(t *testing.T) {
	for _, ends := range []bool{false, true} {
		r := begin(t, program(fun(0, nil, with(api.OpGo, 1), do(api.OpJump, 0)), fun(0, nil, do(api.OpYield), ret())))
		for g := 1; g < api.MaxGs; g++ {
			r.steps(0, 2)
			if r.Gs() != g+1 || r.State(g) != api.GReady || r.State(g+1) != api.GNone {
				t.Fatalf("%d: %d, %d, %d", g, r.Gs(), r.State(g), r.State(g+1))
			}
			// That they end makes no room: it is counted how many were begun.
			if ends {
				r.steps(g, 2)
			}
		}
		r.shows(nil)
		r.steps(0, 1)
		r.shows([]api.Event{event(api.EvFull, 0, 0)})
		if r.Gs() != api.MaxGs || r.State(api.MaxGs) != api.GNone || r.State(0) != api.GReady {
			t.Errorf("%d, %d, %d", r.Gs(), r.State(api.MaxGs), r.State(0))
		}
		r.refuses(0, api.ErrState)
		r.refuses(api.MaxGs, api.ErrNone)
	}
}

func TestFullNamesTheGoroutineThatGoesOn(t *testing.T) {
	r := begin(t, program(fun(0, nil, with(api.OpGo, 0), do(api.OpJump, 1))))
	for g := range api.MaxGs - 1 {
		r.steps(g, 1)
	}
	r.shows(nil)
	r.steps(api.MaxGs-1, 1)
	r.shows([]api.Event{event(api.EvFull, api.MaxGs-1, 0)})
}

// shower is a function of one parameter, which it shows.
func shower() api.Func { return fun(1, kinds(num), show(0), ret()) }

func TestCallsPutOffAreBegunTheLastFirst(t *testing.T) {
	p := program(
		fun(0, kinds(num), cons(0, 9), with(api.OpCall, 2), show(0), ret()),
		shower(),
		fun(0, kinds(num), cons(0, 1), with(api.OpDefer, 1, 0), cons(0, 2), with(api.OpDefer, 1, 0), with(api.OpDefer, 1, 0), cons(0, 3), with(api.OpDefer, 1, 0), cons(0, 4), show(0), ret()))
	r := begin(t, p)
	r.steps(0, 11)
	r.frames(2)
	r.shows(prints(0, 4))
	for i := range 4 {
		// ret, or the ret of the one before, begins it.
		r.steps(0, 1)
		r.frames(3)
		r.next(0, show(0))
		r.steps(0, 1)
		r.shows(prints(0, []int{4, 3, 2, 2, 1}[:2+i]...))
	}
	r.steps(0, 1)
	r.frames(1)
	r.next(0, show(0))
	r.finish()
	r.shows(exits(4, 3, 2, 2, 1, 9))
}

func TestArgumentsOfCallsPutOff(t *testing.T) {
	p := program(
		fun(0, kinds(num, flt, ptr(box), line(num), num),
			cons(0, 7), bits(1, math.Float64bits(2)), do(api.OpNew, 2, box), do(api.OpStore, 2, 0, 0), makeLine(3, 1), do(api.OpSend, 3, 0), with(api.OpDefer, 1, 0, 1, 2, 3, 0),
			cons(0, 1), bits(1, 0), do(api.OpStore, 2, 0, 0), do(api.OpNew, 2, box), makeLine(3, 0), ret()),
		fun(5, kinds(num, flt, ptr(box), line(num), num, num), show(0), show(1), show(4), do(api.OpLoad, 0, 2, 0), show(0), do(api.OpRecv, 0, 3, 5), show(0), ret()))
	// The arguments are those of then, the object's field is that of now.
	want := []api.Event{event(api.EvPrint, 0, 7), {Kind: api.EvFloat, Value: math.Float64bits(2)}, event(api.EvPrint, 0, 7), event(api.EvPrint, 0, 1), event(api.EvPrint, 0, 7), event(api.EvExit, 0, 0)}
	expect(t, "arguments", outcomeOf(t, p), want)
}

func TestCallsPutOffWithinCallsPutOff(t *testing.T) {
	p := program(
		fun(0, kinds(num), cons(0, 1), with(api.OpDefer, 2, 0), cons(0, 5), with(api.OpDefer, 2, 0), ret()),
		shower(),
		// It shows n behind its end, n + 1 ahead of that, and n + 2 at once.
		fun(1, kinds(num, num), cons(1, 1), with(api.OpDefer, 1, 0), do(api.OpAdd, 0, 0, 1), with(api.OpDefer, 1, 0), do(api.OpAdd, 0, 0, 1), show(0), ret()))
	expect(t, "calls", outcomeOf(t, p), exits(7, 6, 5, 3, 2, 1))
	// One in another, several deep: each ends ahead of the one that has put it off.
	p = program(
		fun(0, kinds(num), cons(0, 5), with(api.OpDefer, 1, 0), ret()),
		fun(1, kinds(num, num), do(api.OpJumpZ, 0, 5), cons(1, -1), do(api.OpAdd, 1, 0, 1), with(api.OpDefer, 1, 1), show(0), ret()))
	r := begin(t, p)
	if got := deepest(r); got != 7 {
		t.Errorf("%d frames", got)
	}
	r.shows(exits(5, 4, 3, 2, 1))
}

// What a frame has returned stays the same while the calls that it has put off go on, and goes to its caller behind them.
func TestResultsWaitForCallsPutOff(t *testing.T) {
	p := program(
		fun(0, kinds(num, ptr(box)), with(api.OpCall, 1, 0, 1), show(0), do(api.OpLoad, 0, 1, 0), show(0), ret()),
		gives(0, kinds(num, ptr(box)), kinds(num, ptr(box)), cons(0, 4), do(api.OpNew, 1, box), with(api.OpDefer, 2, 1), with(api.OpDefer, 3), ret(0, 1)),
		fun(1, kinds(ptr(box), num), cons(1, 6), do(api.OpStore, 0, 1, 0), show(1), ret()),
		// A call that was put off calls others: their results are not those that wait.
		fun(0, kinds(num, num, ptr(box)), with(api.OpCall, 4, 0, 1), show(0), show(1), ret()),
		gives(0, kinds(num, num), kinds(num, num), cons(0, 8), cons(1, 9), ret(1, 0)))
	expect(t, "results", outcomeOf(t, p), exits(9, 8, 6, 4, 6))
}

func TestMaxCapCallsPutOff(t *testing.T) {
	for n := range api.MaxCap + 2 {
		// Each is put off with its number.
		var code []api.Ins
		var want []int
		for i := range n {
			code = append(code, cons(0, i), with(api.OpDefer, 1, 0))
			if i < api.MaxCap {
				want = append([]int{i}, want...)
			}
		}
		events := exits(want...)
		if n > api.MaxCap {
			events = panics(api.PanicDepth, want...)
		}
		expect(t, "calls put off", outcomeOf(t, program(fun(0, kinds(num), append(code, ret())...), shower())), events)
	}
	// As many of each frame.
	var code []api.Ins
	for range api.MaxCap {
		code = append(code, with(api.OpDefer, 2))
	}
	p := program(fun(0, kinds(num), append(code, with(api.OpCall, 1), cons(0, 5), show(0), ret())...), fun(0, nil, append(code, ret())...), fun(0, nil, ret()))
	expect(t, "two frames", outcomeOf(t, p), exits(5))
}

// One call too many is a panic: of those put off one may recover.
func TestOneCallPutOffTooManyIsRecovered(t *testing.T) {
	code := the(with(api.OpDefer, 1))
	for range api.MaxCap {
		code = append(code, with(api.OpDefer, 2))
	}
	p := program(
		fun(0, kinds(num), append(code, show(0), ret())...),
		fun(0, kinds(num, num), do(api.OpRecover, 0, 1), show(0), show(1), ret()),
		fun(0, nil, ret()))
	expect(t, "a panic", outcomeOf(t, p), exits(api.PanicDepth, 1))
}

func TestTheLastFrameOfAGoroutine(t *testing.T) {
	r := begin(t, program(fun(0, nil, with(api.OpGo, 1), do(api.OpJump, 1)), fun(0, kinds(num), with(api.OpDefer, 2), with(api.OpCall, 2), ret()), fun(0, kinds(num), show(0), ret())))
	r.steps(0, 1)
	r.steps(1, 4)
	r.frames(1, 1)
	r.steps(1, 1)
	r.frames(1, 2)
	r.states(api.GReady, api.GReady)
	r.steps(1, 2)
	r.frames(1, 0)
	r.states(api.GReady, api.GDead)
	r.shows(prints(1, 0, 0))
	r.refuses(1, api.ErrState)
	r.steps(0, 1)
	r.shows(prints(1, 0, 0))
}
