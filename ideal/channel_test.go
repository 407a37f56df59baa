package ideal_test

import (
	"math"
	"testing"

	"treadle/api"
)

// idle is a function 0 that makes channels of int, of so many places each, begins a goroutine of each of the functions from 1 on, with the channels as arguments, and then goes on for ever.
func idle(workers int, places ...int) api.Func {
	var slots []api.Kind
	var code []api.Ins
	var all []int
	for i, n := range places {
		slots = append(slots, line(num))
		code = append(code, makeLine(i, n))
		all = append(all, i)
	}
	for f := 1; f <= workers; f++ {
		code = append(code, with(api.OpGo, f, all...))
	}
	return fun(0, slots, append(code, do(api.OpJump, len(code)))...)
}

// worker is a function of channels of int, as many as are told, then four int slots.
func worker(channels int, code ...api.Ins) api.Func {
	var slots []api.Kind
	for range channels {
		slots = append(slots, line(num))
	}
	return fun(channels, append(slots, num, num, num, num), append(code, ret())...)
}

// work is a run of workers, at their beginning, with channels of so many places.
func work(t *testing.T, places []int, workers ...api.Func) run {
	t.Helper()
	r := begin(t, program(append([]api.Func{idle(len(workers), places...)}, workers...)...))
	r.steps(0, len(places)+len(workers))
	return r
}

const ready, waits, dead = api.GReady, api.GWaits, api.GDead

func TestPlacesOfAChannel(t *testing.T) {
	for _, places := range []int{0, 1, 2, 7, api.MaxCap} {
		r := work(t, []int{places}, worker(1, cons(1, 1), do(api.OpAdd, 2, 2, 1), do(api.OpSend, 0, 2), do(api.OpJump, 1)), worker(1, do(api.OpRecv, 1, 0, 2), show(1), show(2), do(api.OpJump, 0)))
		r.steps(1, 1+3*places)
		r.states(ready, ready, ready)
		r.steps(1, 2)
		r.states(ready, waits, ready)
		r.noNext(1)
		// The values come in their order, and the one who waited goes on.
		r.steps(2, 1)
		r.states(ready, ready, ready)
		r.next(1, do(api.OpJump, 1))
		r.steps(2, 2)
		want := prints(2, 1, 1)
		for i := range places {
			r.steps(2, 4)
			want = append(want, prints(2, i+2, 1)...)
		}
		r.shows(want)
		// Then there is nothing.
		r.steps(2, 2)
		r.states(ready, ready, waits)
		r.noNext(2)
		// The next value goes to the one who waits.
		r.steps(1, 3)
		r.states(ready, ready, ready)
		r.steps(2, 2)
		r.shows(append(want, prints(2, places+2, 1)...))
	}
}

func TestAReceiverIsWokenByASend(t *testing.T) {
	r := work(t, []int{0}, worker(1, cons(2, 5), do(api.OpRecv, 1, 0, 2), show(1), show(2)), worker(1, cons(1, 7), do(api.OpSend, 0, 1), show(1)))
	r.steps(1, 2)
	r.states(ready, waits, ready)
	r.steps(2, 2)
	r.states(ready, ready, ready)
	r.next(1, show(1))
	r.next(2, show(1))
	r.steps(1, 2)
	r.shows(prints(1, 7, 1))
}

func TestASenderIsWokenByARecv(t *testing.T) {
	r := work(t, []int{0}, worker(1, cons(1, 7), do(api.OpSend, 0, 1), show(1)), worker(1, do(api.OpRecv, 1, 0, 2), show(1), show(2)))
	r.steps(1, 2)
	r.states(ready, waits, ready)
	r.steps(2, 1)
	r.states(ready, ready, ready)
	r.next(1, show(1))
	r.next(2, show(1))
	r.steps(2, 2)
	r.steps(1, 1)
	r.shows(append(prints(2, 7, 1), prints(1, 7)...))
}

// Of several who wait the first one is woken, then the others in their order.
func TestWhoWaitsIsWokenInOrder(t *testing.T) {
	receiver := worker(1, do(api.OpRecv, 1, 0, 2), show(1))
	sender := func(n int) api.Func { return worker(1, cons(1, n), do(api.OpSend, 0, 1), show(1)) }
	r := work(t, []int{0}, receiver, receiver, receiver, sender(10), sender(20), sender(30))
	for _, g := range []int{2, 3, 1} {
		r.steps(g, 1)
	}
	r.states(ready, waits, waits, waits, ready, ready, ready)
	r.steps(5, 2)
	r.states(ready, waits, ready, waits, ready, ready, ready)
	r.steps(4, 2)
	r.states(ready, waits, ready, ready, ready, ready, ready)
	r.steps(6, 2)
	r.steps(1, 1)
	r.steps(2, 1)
	r.steps(3, 1)
	r.shows([]api.Event{event(api.EvPrint, 1, 30), event(api.EvPrint, 2, 20), event(api.EvPrint, 3, 10)})
	r = work(t, []int{1}, sender(10), sender(20), sender(30), receiver, receiver, receiver)
	for _, g := range []int{3, 1, 2} {
		r.steps(g, 2)
	}
	r.states(ready, waits, waits, ready, ready, ready, ready)
	r.steps(4, 1)
	r.states(ready, ready, waits, ready, ready, ready, ready)
	r.steps(5, 1)
	r.states(ready, ready, ready, ready, ready, ready, ready)
	r.steps(6, 1)
	for g := 4; g <= 6; g++ {
		r.steps(g, 1)
	}
	r.shows([]api.Event{event(api.EvPrint, 4, 30), event(api.EvPrint, 5, 10), event(api.EvPrint, 6, 20)})
}

// Floats and pointers go through channels as ints do; a channel of another one's kind is another one.
func TestChannelsOfOtherKinds(t *testing.T) {
	slots := kinds(line(flt), line(ptr(node)), flt, ptr(node), ptr(node), num, line(ptr(nums)), ptr(nums), flt)
	got := outcome(t, slots,
		makeLine(0, 2), makeLine(1, 2), makeLine(6, 1), bits(2, math.Float64bits(3)), do(api.OpSend, 0, 2), do(api.OpNew, 3, node), do(api.OpSend, 1, 3), do(api.OpSend, 1, 4), cons(5, 6), do(api.OpNewArr, 7, nums, 5), do(api.OpSend, 6, 7),
		do(api.OpRecv, 8, 0, 5), show(8), do(api.OpRecv, 4, 1, 5), do(api.OpPEq, 5, 3, 4), show(5), do(api.OpRecv, 4, 1, 5), show(5), do(api.OpPEq, 5, 3, 4), show(5), do(api.OpRecv, 7, 6, 5), do(api.OpLen, 5, 7), show(5), ret())
	want := append([]api.Event{{Kind: api.EvFloat, Value: math.Float64bits(3)}}, exits(1, 1, 0, 6)...)
	expect(t, "channels", got, want)
}

// Where A and C are one slot, A is written first.
func TestRecvIntoOneSlot(t *testing.T) {
	got := outcome(t, kinds(line(num), num), makeLine(0, 1), cons(1, 7), do(api.OpSend, 0, 1), do(api.OpRecv, 1, 0, 1), show(1), do(api.OpClose, 0), do(api.OpRecv, 1, 0, 1), show(1), ret())
	expect(t, "recv", got, exits(1, 0))
	r := work(t, []int{0}, worker(1, do(api.OpRecv, 1, 0, 1), show(1), do(api.OpRecv, 1, 0, 1), show(1)), worker(1, cons(1, 7), do(api.OpSend, 0, 1), do(api.OpClose, 0)))
	r.steps(1, 1)
	r.steps(2, 2)
	r.steps(1, 2)
	r.steps(2, 1)
	r.steps(1, 1)
	r.shows(prints(1, 1, 0))
}

func TestAClosedChannel(t *testing.T) {
	slots := kinds(line(num), num, num)
	// What stands in its places is received; then 0 and 0, again and again.
	got := outcome(t, slots, makeLine(0, 3), cons(1, 7), do(api.OpSend, 0, 1), cons(1, 8), do(api.OpSend, 0, 1), do(api.OpClose, 0),
		do(api.OpRecv, 1, 0, 2), show(1), show(2), do(api.OpRecv, 1, 0, 2), show(1), show(2), do(api.OpRecv, 1, 0, 2), show(1), show(2), cons(1, 5), cons(2, 5), do(api.OpRecv, 1, 0, 2), show(1), show(2), ret())
	expect(t, "recv", got, exits(7, 1, 8, 1, 0, 0, 0, 0))
	for _, places := range []int{0, 2} {
		for _, ins := range []api.Ins{do(api.OpSend, 0, 1), do(api.OpClose, 0)} {
			expect(t, "a closed channel", outcome(t, slots, makeLine(0, places), do(api.OpClose, 0), ins, ret()), panics(api.PanicChan))
		}
	}
}

func TestNilChannels(t *testing.T) {
	slots := kinds(line(num), num, num)
	expect(t, "close", outcome(t, slots, do(api.OpClose, 0), ret()), panics(api.PanicNil))
	for _, ins := range []api.Ins{do(api.OpSend, 0, 1), do(api.OpRecv, 1, 0, 2), sel(1, 0, 0, 1), sel(1, 1, 0, 1), sel(1, 1, 0, 1, 0, 0, 1, 1, 0, 2), sel(1)} {
		expect(t, "it waits for ever", outcome(t, slots, ins, ret()), []api.Event{event(api.EvDead, 0, 0)})
		r := work(t, []int{0}, fun(1, kinds(line(num), num, num, line(num)), body(the(do(api.OpMove, 0, 3)), the(ins, show(1), ret()))...), worker(1, do(api.OpClose, 0)))
		r.steps(1, 2)
		r.steps(2, 1)
		r.tick(api.MaxTicks)
		r.states(ready, waits, ready)
		r.noNext(1)
		r.refuses(1, api.ErrState)
	}
	for _, ins := range []api.Ins{selOr(1, 0, 0, 1), selOr(1, 1, 0, 2), selOr(1, 1, 0, 1, 0, 0, 1), selOr(1)} {
		expect(t, "the default", outcome(t, slots, cons(1, 9), ins, show(1), show(2), ret()), exits(-1, 0))
	}
}

func TestWhoWaitsIsWokenByClose(t *testing.T) {
	receiver := worker(1, cons(1, 5), cons(2, 5), do(api.OpRecv, 1, 0, 2), show(1), show(2))
	r := work(t, []int{0}, receiver, receiver, worker(1, do(api.OpClose, 0)))
	r.steps(1, 3)
	r.steps(2, 3)
	r.states(ready, waits, waits, ready)
	r.steps(3, 1)
	r.states(ready, ready, ready, ready)
	r.next(1, show(1))
	r.next(2, show(1))
	r.steps(2, 2)
	r.steps(1, 2)
	r.shows(append(prints(2, 0, 0), prints(1, 0, 0)...))
}

func TestSendersThatWaitAtAChannelThatIsClosed(t *testing.T) {
	for _, places := range []int{0, 1} {
		sender := worker(1, with(api.OpDefer, 4), do(api.OpSend, 0, 1), show(1))
		closer := worker(1, append(times(places, do(api.OpSend, 0, 1)), do(api.OpClose, 0))...)
		r := begin(t, program(idle(3, places), sender, sender, closer, recovers()))
		r.steps(0, 4)
		r.steps(3, places)
		r.steps(1, 2)
		r.steps(2, 2)
		r.states(ready, waits, waits, ready)
		r.steps(3, 1)
		r.states(ready, ready, ready, ready)
		r.frames(1, 1, 1, 1)
		r.noNext(1, 2)
		r.next(3, ret())
		// The panic stands in the place of the next instruction, and is recovered like others.
		for _, g := range []int{2, 1} {
			r.steps(g, 1)
			r.next(g, do(api.OpRecover, 0, 1))
			if r.Frames(g) != 2 {
				t.Errorf("Frames(%d): %d", g, r.Frames(g))
			}
			r.steps(g, 4)
		}
		r.shows(append(prints(2, api.PanicChan, 1), prints(1, api.PanicChan, 1)...))
		r.states(ready, dead, dead, ready)
	}
}

// The panic of a sender whose channel was closed stands in the place of one that there is, too.
func TestASenderOfAClosedChannelThatPanicsAlready(t *testing.T) {
	r := begin(t, program(
		fun(0, kinds(line(num)), makeLine(0, 0), do(api.OpSet, gLine, 0), with(api.OpGo, 1), with(api.OpGo, 2), do(api.OpJump, 4)),
		fun(0, kinds(num), with(api.OpDefer, 4), with(api.OpDefer, 3), cons(0, 5), do(api.OpPanic, 0)),
		fun(0, kinds(line(num)), do(api.OpGet, 0, gLine), do(api.OpClose, 0), ret()),
		fun(0, kinds(line(num), num), do(api.OpGet, 0, gLine), do(api.OpSend, 0, 1), show(1), ret()),
		recovers()))
	r.steps(0, 4)
	r.steps(1, 6)
	r.states(ready, waits, ready)
	r.frames(1, 2, 1)
	r.steps(2, 2)
	r.states(ready, ready, ready)
	r.noNext(1)
	r.steps(1, 1)
	r.next(1, do(api.OpRecover, 0, 1))
	r.steps(1, 4)
	r.shows(prints(1, api.PanicChan, 1))
	r.states(ready, dead, ready)
}

func TestSelectTakesAReadyCase(t *testing.T) {
	slots := kinds(line(num), line(num), line(num), line(num), num, num, num)
	// Of the channels 0 is nil, 1 is empty, 2 is full, 3 is closed; all of one place.
	first := the(makeLine(1, 1), makeLine(2, 1), cons(4, 7), do(api.OpSend, 2, 4), makeLine(3, 1), do(api.OpClose, 3), cons(4, 9), cons(5, 5))
	for _, c := range []struct {
		cases []int
		a, n  int // what is written: the case's number, and what the slot 5 is then
	}{
		{[]int{0, 1, 5}, 0, 5}, {[]int{1, 2, 5}, 0, 7}, {[]int{1, 3, 5}, 0, 0},
		{[]int{1, 1, 5, 0, 1, 5}, 1, 5}, {[]int{1, 0, 5, 1, 1, 5, 0, 0, 5, 1, 2, 5}, 3, 7}, {[]int{0, 2, 5, 1, 1, 5, 1, 3, 5}, 2, 0}, {[]int{0, 0, 5, 1, 0, 5, 0, 2, 5, 0, 1, 5, 1, 0, 5}, 3, 5},
		{[]int{1, 1, 5, 1, 1, 5, 1, 1, 5, 1, 1, 5, 1, 1, 5, 1, 1, 5, 1, 1, 5, 1, 2, 5}, 7, 7},
	} {
		for _, choice := range []uint64{0, 1, 2, math.MaxUint64} {
			for _, ins := range []api.Ins{sel(4, c.cases...), selOr(4, c.cases...)} {
				r := begin(t, program(fun(0, slots, body(first, the(ins, show(4), show(5), ret()))...)))
				r.steps(0, len(first))
				r.step(0, choice)
				r.steps(0, 3)
				r.shows(exits(c.a, c.n))
			}
		}
	}
	// No case is ready.
	for _, cases := range [][]int{{1, 1, 5}, {0, 2, 5}, {1, 0, 5}, {0, 0, 5}, {1, 1, 5, 0, 2, 5, 1, 0, 5, 0, 0, 5, 1, 1, 6}, {}} {
		for _, choice := range []uint64{0, 1, math.MaxUint64} {
			r := begin(t, program(fun(0, slots, body(first, the(selOr(4, cases...), show(4), show(5), ret()))...)))
			r.steps(0, len(first))
			r.step(0, choice)
			r.steps(0, 3)
			r.shows(exits(-1, 5))
			r = begin(t, program(fun(0, slots, body(first, the(sel(4, cases...), show(4), show(5), ret()))...)))
			r.steps(0, len(first))
			r.step(0, choice)
			r.states(waits)
			r.shows([]api.Event{event(api.EvDead, 0, 0)})
		}
	}
	// A send to a closed channel is ready, and panics.
	for _, ins := range []api.Ins{sel(4, 0, 3, 5), selOr(4, 1, 1, 5, 0, 3, 5)} {
		expect(t, "a send", outcome(t, slots, body(first, the(ins, ret()))...), panics(api.PanicChan))
	}
}

func TestSelectByChoice(t *testing.T) {
	// The cases are receives from channels of which those are full that are told.
	for _, full := range [][]int{{0}, {1}, {0, 1}, {0, 2}, {1, 2, 4}, {0, 1, 2, 3}, {0, 2, 3, 5, 6}, {1, 2, 3, 4, 5, 6, 7}, {0, 1, 2, 3, 4, 5, 6, 7}} {
		var slots []api.Kind
		var code []api.Ins
		var cases []int
		for i := range 8 {
			slots = append(slots, line(num))
			code = append(code, makeLine(i, 1))
			cases = append(cases, 1, i, 9)
		}
		for _, i := range full {
			code = append(code, cons(8, 10+i), do(api.OpSend, i, 8))
		}
		p := program(fun(0, append(slots, num, num), append(code, sel(8, cases...), show(8), show(9), ret())...))
		for _, choice := range []uint64{0, 1, 2, 3, 4, 5, 6, 7, 8, 9, 63, 64, 1 << 32, 1<<32 + 1, 1<<63 - 1, 1 << 63, 1<<63 + 1, math.MaxUint64 - 1, math.MaxUint64} {
			r := begin(t, p)
			r.steps(0, len(code))
			r.step(0, choice)
			r.steps(0, 3)
			taken := full[choice%uint64(len(full))]
			r.shows(exits(taken, 10+taken))
		}
	}
}
