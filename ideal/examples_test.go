package ideal_test

import (
	"testing"

	"treadle/api"
)

// The ten examples of the whole.

func TestExample1(t *testing.T) {
	r := begin(t, program(fun(0, kinds(num), cons(0, 7), show(0), ret())))
	r.steps(0, 1)
	r.shows(nil)
	r.steps(0, 1)
	r.shows(prints(0, 7))
	r.steps(0, 1)
	r.shows(then(prints(0, 7), api.EvExit, 0, 0))
	r.refuses(0, api.ErrState)
}

func TestExample2(t *testing.T) {
	r := begin(t, program(fun(0, kinds(num), do(api.OpJump, 0))))
	for range 1000 {
		r.step(0, 0)
		r.tick(1)
	}
	r.shows(nil)
	r.states(api.GReady)
	r.next(0, do(api.OpJump, 0))
}

func TestExample3(t *testing.T) {
	r := begin(t, program(fun(0, kinds(line(num), num, num), makeLine(0, 0), do(api.OpRecv, 1, 0, 2), ret())))
	r.steps(0, 1)
	r.shows(nil)
	r.steps(0, 1)
	r.shows([]api.Event{event(api.EvDead, 0, 0)})
	r.states(api.GWaits)
}

func TestExample4(t *testing.T) {
	r := begin(t, program(fun(0, kinds(num), cons(0, 5), do(api.OpPanic, 0))))
	r.steps(0, 2)
	r.shows([]api.Event{event(api.EvPanic, 0, 5)})
	r.states(api.GDead)
	r.frames(0)
	r = begin(t, program(fun(0, kinds(num), with(api.OpDefer, 1), cons(0, 5), do(api.OpPanic, 0)), fun(0, kinds(num, num), do(api.OpRecover, 0, 1), ret())))
	r.steps(0, 5)
	r.shows([]api.Event{event(api.EvExit, 0, 0)})
}

func TestExamples5To7(t *testing.T) {
	expect(t, "div", outcome(t, kinds(num, num), do(api.OpDiv, 0, 0, 1), ret()), []api.Event{event(api.EvPanic, 0, -3)})
	expect(t, "load", outcome(t, kinds(ptr(box), num), do(api.OpLoad, 1, 0, 0), ret()), []api.Event{event(api.EvPanic, 0, -1)})
	expect(t, "fdiv", outcome(t, kinds(flt, flt), bits(0, 0), do(api.OpFDiv, 0, 0, 1), show(0), ret()), []api.Event{{Kind: api.EvFloat, Value: 0x7ff8000000000001}, event(api.EvExit, 0, 0)})
}

func TestExample8(t *testing.T) {
	p := program(
		fun(0, kinds(line(num), num, num), makeLine(0, 0), with(api.OpGo, 1, 0), do(api.OpRecv, 1, 0, 2), show(1), ret()),
		fun(1, kinds(line(num), num), cons(1, 1), do(api.OpSend, 0, 1), ret()))
	want := then(prints(0, 1), api.EvExit, 0, 0)
	// The receiver first: it waits.
	r := begin(t, p)
	r.steps(0, 3)
	r.states(api.GWaits, api.GReady)
	r.steps(1, 2)
	r.states(api.GReady, api.GReady)
	r.steps(0, 2)
	r.shows(want)
	// The sender first: it waits.
	r = begin(t, p)
	r.steps(0, 2)
	r.steps(1, 2)
	r.states(api.GReady, api.GWaits)
	r.steps(0, 1)
	r.states(api.GReady, api.GReady)
	r.steps(1, 1)
	r.states(api.GReady, api.GDead)
	r.steps(0, 2)
	r.shows(want)
}

func TestExample9(t *testing.T) {
	expect(t, "exit", outcome(t, kinds(num), cons(0, -1), stop(0)), []api.Event{event(api.EvExit, 0, -1)})
}

func TestExample10(t *testing.T) {
	r := begin(t, program(fun(0, kinds(num), cons(0, 3), do(api.OpSleep, 0), show(0), ret())))
	r.steps(0, 2)
	r.tick(2)
	r.refuses(0, api.ErrState)
	r.shows(nil)
	r.tick(1)
	r.shows(nil)
	r.steps(0, 1)
	r.shows(prints(0, 3))
}

// The examples of the chapter.

func TestASendThatWaitsAtAChannelThatIsClosed(t *testing.T) {
	r := begin(t, program(
		fun(0, kinds(line(num)), makeLine(0, 0), with(api.OpGo, 1, 0), do(api.OpClose, 0), do(api.OpJump, 3)),
		fun(1, kinds(line(num), num), do(api.OpSend, 0, 1), show(1), ret())))
	r.steps(0, 2)
	r.steps(1, 1)
	r.states(api.GReady, api.GWaits)
	r.steps(0, 1)
	r.states(api.GReady, api.GReady)
	r.noNext(1)
	r.next(0, do(api.OpJump, 3))
	r.shows(nil)
	r.frames(1, 1)
	r.steps(1, 1)
	r.shows([]api.Event{event(api.EvPanic, 1, -4)})
	r.states(api.GReady, api.GDead)
	r.frames(1, 0)
}

func TestAPanicThatIsRecovered(t *testing.T) {
	r := begin(t, program(
		fun(0, kinds(num), with(api.OpDefer, 1), cons(0, 5), do(api.OpPanic, 0)),
		fun(0, kinds(num, num), do(api.OpRecover, 0, 1), show(0), ret())))
	r.steps(0, 1)
	r.frames(1)
	r.steps(0, 2)
	r.frames(2)
	r.next(0, do(api.OpRecover, 0, 1))
	r.steps(0, 1)
	r.next(0, show(0))
	r.steps(0, 1)
	r.shows(prints(0, 5))
	r.steps(0, 1)
	r.shows(then(prints(0, 5), api.EvExit, 0, 0))
	r.states(api.GDead)
	r.frames(0)
}
