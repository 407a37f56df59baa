package ideal_test

import (
	"slices"
	"testing"

	"treadle/api"
)

// Only the case that is done does something.
func TestSelectLeavesOtherCasesAlone(t *testing.T) {
	slots := kinds(line(num), line(num), num, num, num, num)
	first := the(makeLine(0, 1), makeLine(1, 2), cons(2, 7), do(api.OpSend, 0, 2), cons(2, 8), do(api.OpSend, 1, 2), cons(3, 3), cons(4, 4), cons(5, 5))
	// Then it is seen what is left in the channels.
	last := the(show(2), show(3), show(4), selOr(2, 1, 0, 3), show(2), selOr(2, 1, 1, 4), show(2), show(4), selOr(2, 1, 1, 4), show(2), show(4), ret())
	p := program(fun(0, slots, body(first, the(sel(2, 1, 0, 3, 1, 1, 4, 0, 1, 5)), last)...))
	for choice, want := range [][]int{{0, 7, 4, -1, 0, 8, -1, 8}, {1, 3, 8, 0, -1, 8, -1, 8}, {2, 3, 4, 0, 0, 8, 0, 5}} {
		r := begin(t, p)
		r.steps(0, len(first))
		r.step(0, uint64(choice))
		r.finish()
		r.shows(exits(want...))
	}
}

// A is written first: the case may send it, or write over it.
func TestSelectWritesItsNumberFirst(t *testing.T) {
	slots := kinds(line(num), line(num), num, num)
	got := outcome(t, slots, makeLine(0, 1), cons(2, 7), do(api.OpSend, 0, 2), cons(2, 9), sel(2, 1, 0, 2), show(2), ret())
	expect(t, "a receive into A", got, exits(7))
	got = outcome(t, slots, makeLine(0, 1), cons(2, 9), sel(2, 1, 1, 3, 0, 0, 2), show(2), do(api.OpRecv, 2, 0, 3), show(2), ret())
	expect(t, "a send of A", got, exits(1, 1))
	got = outcome(t, slots, makeLine(0, 1), do(api.OpClose, 0), cons(2, 9), sel(2, 1, 1, 3, 1, 0, 2), show(2), ret())
	expect(t, "a receive from a closed channel into A", got, exits(0))
	// Whoever waits sends what A is then, and receives into it behind its number.
	r := work(t, []int{0}, worker(1, cons(1, 9), sel(1, 0, 0, 1), show(1)), worker(1, do(api.OpRecv, 1, 0, 2), show(1)))
	r.steps(1, 2)
	r.steps(2, 2)
	r.steps(1, 1)
	r.shows(append(prints(2, 9), prints(1, 0)...))
	r = work(t, []int{0}, worker(1, cons(1, 9), sel(1, 1, 0, 1), show(1)), worker(1, cons(1, 6), do(api.OpSend, 0, 1)))
	r.steps(1, 2)
	r.steps(2, 2)
	r.steps(1, 1)
	r.shows(prints(1, 6))
}

// A select hands to whoever waits, and takes from them.
func TestSelectWakesAPartner(t *testing.T) {
	r := work(t, []int{0, 0}, worker(2, do(api.OpRecv, 2, 1, 3), show(2), show(3)), worker(2, cons(3, 8), sel(2, 0, 0, 3, 0, 1, 3), show(2)))
	r.steps(1, 1)
	r.states(ready, waits, ready)
	r.steps(2, 2)
	r.states(ready, ready, ready)
	r.steps(1, 2)
	r.steps(2, 1)
	r.shows(append(prints(1, 8, 1), prints(2, 1)...))
	for _, places := range []int{0, 1} {
		// In a place stands a 0 ahead of what the one who waits sends.
		sender := worker(2, append(times(places, do(api.OpSend, 1, 3)), cons(2, 8), do(api.OpSend, 1, 2), show(2))...)
		r = work(t, []int{0, places}, sender, worker(2, cons(3, 5), sel(2, 1, 0, 3, 1, 1, 3), show(2), show(3), selOr(2, 1, 1, 3), show(2), show(3)))
		r.steps(1, 2+places)
		r.states(ready, waits, ready)
		r.steps(2, 2)
		r.states(ready, ready, ready)
		r.next(1, show(2))
		r.steps(2, 5)
		r.shows(prints(2, [][]int{{1, 8, -1, 8}, {1, 0, 0, 8}}[places]...))
	}
}

func TestSelectWaitsAndIsWoken(t *testing.T) {
	selector := worker(2, cons(3, 30), cons(4, 40), sel(2, 1, 0, 3, 0, 1, 4), show(2), show(3), show(4))
	sender := worker(2, cons(2, 7), do(api.OpSend, 0, 2), show(2))
	receiver := worker(2, do(api.OpRecv, 2, 1, 3), show(2), show(3))
	// By a sender: it waits for the receiver no more.
	r := work(t, []int{0, 0}, selector, sender, receiver)
	r.steps(1, 3)
	r.states(ready, waits, ready, ready)
	r.noNext(1)
	r.steps(2, 2)
	r.states(ready, ready, ready, ready)
	r.next(1, show(2))
	r.steps(3, 1)
	r.states(ready, ready, ready, waits)
	r.steps(1, 3)
	r.shows(prints(1, 0, 7, 40))
	// By a receiver: it waits for the sender no more.
	r = work(t, []int{0, 0}, selector, sender, receiver)
	r.steps(1, 3)
	r.steps(3, 1)
	r.states(ready, ready, ready, ready)
	r.next(1, show(2))
	r.steps(2, 2)
	r.states(ready, ready, waits, ready)
	r.steps(3, 2)
	r.steps(1, 3)
	r.shows(append(prints(3, 40, 1), prints(1, 1, 30, 40)...))
}

// many is a function that selects among eight channels, in rising order, to send or to receive, and shows the case and its slot.
func many(send int, last ...api.Ins) api.Func {
	var cases []int
	var code []api.Ins
	for i := range 8 {
		cases = append(cases, send, i, 9+i)
		code = append(code, cons(9+i, 50+i))
	}
	slots := append(slices.Repeat(kinds(line(num)), 8), slices.Repeat(kinds(num), 9)...)
	return fun(8, slots, body(code, the(sel(8, cases...), show(8)), last, the(ret()))...)
}

func TestSelectWaitsAtEachOfMostCases(t *testing.T) {
	for k := range 8 {
		var tries []api.Ins
		for i := range 8 {
			tries = append(tries, selOr(8, 0, i, 9), show(8), selOr(8, 1, i, 9), show(8))
		}
		nobody := slices.Repeat([]int{-1}, 16)
		// Nobody waits at any channel any more.
		r := work(t, make([]int, 8), many(1, show(9+k)), worker(8, body(the(cons(9, 7), do(api.OpSend, k, 9)), tries)...))
		r.steps(1, 9)
		r.states(ready, waits, ready)
		r.steps(2, 2+len(tries))
		r.steps(1, 2)
		r.shows(append(prints(2, nobody...), prints(1, k, 7)...))
		r = work(t, make([]int, 8), many(0, show(9+k)), worker(8, body(the(do(api.OpRecv, 8, k, 9), show(8), show(9)), tries)...))
		r.steps(1, 9)
		r.states(ready, waits, ready)
		r.steps(2, 3+len(tries))
		r.steps(1, 2)
		r.shows(slices.Concat(prints(2, 50+k, 1), prints(2, nobody...), prints(1, k, 50+k)))
	}
}

// A close wakes at a case, too, and at no other one.
func TestSelectIsWokenByClose(t *testing.T) {
	for k := range 8 {
		var tries []api.Ins
		for i := range 8 {
			if i != k {
				tries = append(tries, selOr(8, 0, i, 9), show(8), selOr(8, 1, i, 9), show(8))
			}
		}
		nobody := slices.Repeat([]int{-1}, 14)
		r := work(t, make([]int, 8), many(1, show(9), show(9+k), show(16)), worker(8, body(the(do(api.OpClose, k)), tries)...))
		r.steps(1, 9)
		r.steps(2, 1)
		r.states(ready, ready, ready)
		r.next(1, show(8))
		r.steps(2, len(tries))
		r.steps(1, 4)
		want := []int{k, 50, 0, 57}
		if k == 0 {
			want[1] = 0
		}
		if k == 7 {
			want[3] = 0
		}
		r.shows(append(prints(2, nobody...), prints(1, want...)...))
		// A send panics in the place of its next instruction.
		r = work(t, make([]int, 8), many(0), worker(8, body(the(do(api.OpClose, k)), tries)...))
		r.steps(1, 9)
		r.steps(2, 1)
		r.states(ready, ready, ready)
		r.noNext(1)
		r.frames(1, 1)
		r.steps(2, len(tries))
		r.shows(prints(2, nobody...))
		r.steps(1, 1)
		r.shows(then(prints(2, nobody...), api.EvPanic, 1, api.PanicChan))
	}
}

func TestSelectWithOneChannelTwice(t *testing.T) {
	// Ready: both count.
	slots := kinds(line(num), line(num), num, num, num)
	first := the(makeLine(0, 2), makeLine(1, 0), cons(3, 7), do(api.OpSend, 0, 3), cons(3, 3), cons(4, 4))
	for choice, want := range [][]int{{0, 7, 4}, {2, 3, 7}, {3, 3, 4}, {0, 7, 4}, {2, 3, 7}, {3, 3, 4}} {
		r := begin(t, program(fun(0, slots, body(first, the(sel(2, 1, 0, 3, 1, 1, 3, 1, 0, 4, 0, 0, 3), show(2), show(3), show(4), ret()))...)))
		r.steps(0, len(first))
		r.step(0, uint64(choice))
		r.finish()
		r.shows(exits(want...))
	}
	again := worker(1, cons(1, 70), do(api.OpSend, 0, 1), selOr(1, 0, 0, 1), show(1))
	takes := worker(1, do(api.OpRecv, 1, 0, 2), show(1), selOr(1, 1, 0, 3), show(1))
	selector := func(cases ...int) api.Func {
		return worker(1, cons(2, 20), cons(3, 30), cons(4, 40), sel(1, cases...), show(1), show(2), show(3), show(4))
	}
	// Waiting: of two receives, and of two sends, the first one is done, and the other one waits no more.
	r := work(t, []int{0}, selector(1, 0, 2, 1, 0, 3), again)
	r.steps(1, 4)
	r.steps(2, 4)
	r.steps(1, 4)
	r.shows(append(prints(2, -1), prints(1, 0, 70, 30, 40)...))
	r = work(t, []int{0}, selector(0, 0, 3, 0, 0, 2, 0, 0, 4), takes)
	r.steps(1, 4)
	r.steps(2, 4)
	r.steps(1, 4)
	r.shows(append(prints(2, 30, -1), prints(1, 0, 20, 30, 40)...))
	// One of each: a sender finds the receive, a receiver the send.
	for _, cases := range [][]int{{0, 0, 3, 1, 0, 2}, {1, 0, 2, 0, 0, 3}} {
		r = work(t, []int{0}, selector(cases...), again)
		r.steps(1, 4)
		r.states(ready, waits, ready)
		r.steps(2, 4)
		r.steps(1, 4)
		r.shows(append(prints(2, -1), prints(1, cases[0]^1, 70, 30, 40)...))
		r = work(t, []int{0}, selector(cases...), takes)
		r.steps(1, 4)
		r.steps(2, 4)
		r.steps(1, 4)
		r.shows(append(prints(2, 30, -1), prints(1, cases[0], 20, 30, 40)...))
	}
	// Of two receives from a channel that is closed the first one is done.
	r = work(t, []int{0}, selector(1, 0, 3, 1, 0, 2), worker(1, do(api.OpClose, 0)))
	r.steps(1, 4)
	r.steps(2, 1)
	r.steps(1, 4)
	r.shows(prints(1, 0, 20, 0, 40))
	// Two slots may hold one channel.
	p := program(fun(0, kinds(line(num), line(num), num, num), makeLine(0, 0), do(api.OpMove, 1, 0), with(api.OpGo, 1, 0), sel(2, 1, 1, 3, 1, 0, 2), show(2), show(3), ret()), worker(1, cons(1, 6), do(api.OpSend, 0, 1), selOr(1, 0, 0, 1), show(1)))
	r = begin(t, p)
	r.steps(0, 4)
	r.steps(1, 4)
	r.finish()
	r.shows(slices.Concat(prints(1, -1), exits(0, 6)))
}

// Cases with nil channels count, but nobody waits at them.
func TestSelectWithNilChannels(t *testing.T) {
	selector := fun(1, kinds(line(num), line(num), num, num), sel(2, 1, 1, 3, 0, 1, 3, 1, 0, 3, 0, 1, 3), show(2), show(3), ret())
	r := work(t, []int{0}, selector, worker(1, cons(1, 6), do(api.OpSend, 0, 1)))
	r.steps(1, 1)
	r.states(ready, waits, ready)
	r.steps(2, 2)
	r.steps(1, 2)
	r.shows(prints(1, 2, 6))
}

// Who waits by a select stands behind those who wait already, and ahead of those who come.
func TestSelectWaitsInOrder(t *testing.T) {
	receiver := worker(1, do(api.OpRecv, 1, 0, 2), show(1))
	selector := worker(1, sel(1, 1, 0, 2), show(2))
	sender := worker(1, cons(1, 10), do(api.OpSend, 0, 1), cons(1, 20), do(api.OpSend, 0, 1), cons(1, 30), do(api.OpSend, 0, 1))
	r := work(t, []int{0}, receiver, selector, receiver, sender)
	r.steps(3, 1)
	r.steps(2, 1)
	r.steps(1, 1)
	r.steps(4, 2)
	r.states(ready, waits, waits, ready, ready)
	r.steps(4, 2)
	r.states(ready, waits, ready, ready, ready)
	r.steps(4, 2)
	for g := 1; g <= 3; g++ {
		r.steps(g, 1)
	}
	r.shows([]api.Event{event(api.EvPrint, 1, 30), event(api.EvPrint, 2, 20), event(api.EvPrint, 3, 10)})
}

// One select may find another one that waits.
func TestTwoSelects(t *testing.T) {
	one := worker(2, cons(3, 8), sel(2, 1, 0, 4, 0, 1, 3), show(2), show(4))
	two := worker(2, cons(3, 9), sel(2, 0, 0, 3), show(2))
	three := worker(2, sel(2, 1, 0, 4, 1, 0, 4, 1, 1, 4), show(2), show(4))
	r := work(t, []int{0, 0}, one, two, three)
	r.steps(1, 2)
	r.states(ready, waits, ready, ready)
	r.steps(2, 2)
	r.states(ready, ready, ready, ready)
	r.steps(3, 1)
	r.states(ready, ready, ready, waits)
	r.steps(1, 2)
	r.steps(2, 1)
	r.shows(append(prints(1, 0, 9), prints(2, 0)...))
	r = work(t, []int{0, 0}, one, two, three)
	r.steps(1, 2)
	r.steps(3, 1)
	r.states(ready, ready, ready, ready)
	r.steps(2, 2)
	r.states(ready, ready, waits, ready)
	r.steps(1, 2)
	r.steps(3, 2)
	r.shows(append(prints(1, 1, 0), prints(3, 2, 8)...))
}

// What waits by a select to send into a place goes there when there is room.
func TestSelectWaitsForAPlace(t *testing.T) {
	r := work(t, []int{1, 1}, worker(2, cons(2, 5), do(api.OpSend, 0, 2), do(api.OpSend, 1, 2), cons(3, 6), sel(2, 0, 0, 3, 0, 1, 3), show(2)), worker(2, do(api.OpRecv, 2, 1, 3), show(2), selOr(2, 1, 1, 3), show(2), show(3), selOr(2, 1, 0, 3), show(2), show(3), selOr(2, 1, 0, 3), show(2)))
	r.steps(1, 5)
	r.states(ready, waits, ready)
	r.steps(2, 10)
	r.steps(1, 1)
	r.shows(append(prints(2, 5, 0, 6, 0, 5, -1), prints(1, 1)...))
}

// A select may be done again and again: each time it waits anew, and is woken by what comes then.
func TestSelectAgain(t *testing.T) {
	r := work(t, []int{0, 0}, worker(2, sel(2, 1, 0, 3, 1, 1, 4), show(2), show(3), show(4), do(api.OpJump, 0)), worker(2, do(api.OpAdd, 2, 2, 3), do(api.OpSend, 0, 2), do(api.OpJump, 0)), worker(2, cons(2, 50), do(api.OpAdd, 2, 2, 3), do(api.OpSend, 1, 2), do(api.OpJump, 1)))
	r.steps(1, 1)
	r.steps(3, 3)
	r.steps(1, 5)
	r.steps(2, 2)
	r.steps(1, 5)
	r.states(ready, waits, ready, ready)
	r.steps(3, 3)
	r.states(ready, ready, ready, ready)
	r.steps(1, 3)
	r.shows(prints(1, 1, 0, 50, 0, 0, 50, 1, 0, 50))
}

// What a goroutine waits to send is what stood in the slot then, of each case and each goroutine.
func TestSelectsOfSeveralGoroutines(t *testing.T) {
	sender := func(n int) api.Func {
		return worker(3, cons(4, n), cons(5, n+1), cons(6, n+2), sel(3, 0, 2, 4, 0, 1, 5, 0, 0, 6), show(3), show(4), show(5), show(6))
	}
	r := work(t, []int{0, 0, 0}, sender(10), sender(20), sender(30), worker(3, do(api.OpRecv, 3, 1, 4), show(3), do(api.OpRecv, 3, 0, 4), show(3), do(api.OpRecv, 3, 2, 4), show(3)))
	for _, g := range []int{2, 3, 1} {
		r.steps(g, 4)
	}
	r.steps(4, 6)
	r.states(ready, ready, ready, ready, ready)
	want := prints(4, 21, 32, 10)
	for g, n := range []int{0, 0, 1, 2} {
		if g > 0 {
			r.steps(g, 4)
			want = append(want, prints(g, n, 10*g, 10*g+1, 10*g+2)...)
		}
	}
	r.shows(want)
}

// A default is taken at once: nobody waits behind it.
func TestTheDefaultWaitsNowhere(t *testing.T) {
	got := outcome(t, kinds(line(num), num, num), makeLine(0, 0), selOr(1, 1, 0, 2, 0, 0, 2), show(1), selOr(1, 1, 0, 2), show(1), selOr(1, 0, 0, 2), show(1), ret())
	expect(t, "a default", got, exits(-1, -1, -1))
}
