package machine_test

import (
	"slices"
	"testing"

	"treadle/api"
)

// workers are a program: the function 0 makes channels of int, of so many places each, in its first slots, begins a goroutine of each of the other functions, with the channels as arguments, and does the rest.
func workers(places []int, rest []api.Ins, others ...api.Func) api.Program {
	var slots []api.Kind
	var code []api.Ins
	var all []int
	for i, n := range places {
		slots = append(slots, line(num))
		code = append(code, makeLine(i, n))
		all = append(all, i)
	}
	for f := range others {
		code = append(code, with(api.OpGo, f+1, all...))
	}
	return program(append([]api.Func{fun(0, append(slots, num, num, num), append(code, rest...)...)}, others...)...)
}

// worker is a function of channels of int, as many as are told, then four int slots.
func worker(channels int, code ...api.Ins) api.Func {
	var slots []api.Kind
	for range channels {
		slots = append(slots, line(num))
	}
	return fun(channels, append(slots, num, num, num, num), append(code, ret())...)
}

// until tells entries of one processor until the processor's goroutine has executed so many instructions of its own, and fails the test if it hasn't soon.
func (r *rig) until(p, g, n int) {
	r.t.Helper()
	for range 10000 {
		if count(r.m.Moves(), g) >= n {
			return
		}
		r.do(step(p, 0))
	}
	r.t.Fatalf("the goroutine %d doesn't come to %d instructions: %v", g, n, r.m.Moves())
}

// count is how many of the moves are a goroutine's.
func count(moves []api.Move, g int) int {
	n := 0
	for _, move := range moves {
		if move.G == g {
			n++
		}
	}
	return n
}

// took are the goroutines that a processor takes, one behind the other, each of which is let go at once.
func (r *rig) took(p, n int) []int {
	r.t.Helper()
	var list []int
	for range n {
		r.do(entry(api.EnPreempt, p, 0))
		r.do(step(p, 0))
		list = append(list, r.m.Current(p))
	}
	return list
}

// states fails the test if the goroutines have other states, or there are more of them.
func (r *rig) states(want ...int) {
	r.t.Helper()
	for g, state := range append(slices.Clone(want), api.GNone) {
		if got := r.m.State(g); got != state {
			r.t.Errorf("State(%d): %d, want %d, behind %v", g, got, state, r.m.Moves())
		}
	}
}

const ready, waits, dead = api.GReady, api.GWaits, api.GDead

// Who waited first is made ready first: the last one of them is the processor's next one, ahead of the others in their order.
func TestWhoIsWokenByCloseIsReadyInOrder(t *testing.T) {
	for _, ins := range []api.Ins{do(api.OpRecv, 1, 0, 2), do(api.OpSend, 0, 1), sel(1, 1, 0, 2), sel(1, 1, 0, 2, 1, 0, 3), sel(1, 0, 0, 2, 0, 0, 2)} {
		waiter := worker(1, ins, do(api.OpYield), do(api.OpJump, 2))
		r := newRig(t, wide(1), workers([]int{0}, the(do(api.OpYield), do(api.OpClose, 0), do(api.OpJump, 6)), waiter, waiter, waiter))
		// The goroutine 3 is taken first, then 1 and 2, as that was the processor's next one; then they wait in this order.
		r.until(0, 0, 5)
		r.until(0, 2, 1)
		r.states(ready, waits, waits, waits)
		order := []int{}
		for _, move := range r.m.Moves() {
			if move.G > 0 {
				order = append(order, move.G)
			}
		}
		if !slices.Equal(order, []int{3, 1, 2}) {
			t.Fatalf("they wait in the order %v", order)
		}
		r.until(0, 0, 6)
		r.states(ready, ready, ready, ready)
		if got := r.took(0, 4); !slices.Equal(got, []int{2, 3, 1, 0}) {
			t.Errorf("%v: taken in the order %v", ins, got)
		}
	}
}

// Who is woken is the next one of the processor that has woken it, wherever it has waited.
func TestWhoIsWokenIsNextOnThatProcessor(t *testing.T) {
	sends := worker(1, cons(1, 7), do(api.OpSend, 0, 1), show(1), do(api.OpJump, 3))
	r := newRig(t, wide(3), workers([]int{0}, the(do(api.OpRecv, 1, 0, 2), show(1), do(api.OpJump, 4)), sends))
	r.until(2, 0, 3)
	r.states(waits, ready)
	if r.m.Current(2) != -1 {
		t.Errorf("Current(2): %d", r.m.Current(2))
	}
	r.until(1, 1, 2)
	r.states(ready, ready)
	// The processor 0 finds nothing of its own, and steals it where it is the next one: on the processor 1.
	r.do(entry(api.EnStep, 1, 0))
	r.do(entry(api.EnPreempt, 1, 0))
	r.do(step(1, 0))
	if got := r.m.Current(1); got != 0 {
		t.Errorf("Current(1): %d", got)
	}
	r.until(1, 0, 4)
	if got := r.m.Trace(); !slices.Equal(got, append(prints(1, 7), prints(0, 7)...)) {
		t.Errorf("Trace: %v", got)
	}
}

// What go begins is the next one of its processor; the one that goes on stays there.
func TestGoIsNextOnItsProcessor(t *testing.T) {
	r := newRig(t, wide(2), program(fun(0, nil, with(api.OpGo, 1), with(api.OpGo, 1), with(api.OpGo, 1), do(api.OpJump, 3)), forEver()))
	for range 4 {
		r.do(step(1, 0))
	}
	r.states(ready, ready, ready, ready)
	if r.m.Current(1) != 0 {
		t.Errorf("Current(1): %d", r.m.Current(1))
	}
	if got := r.took(1, 4); !slices.Equal(got, []int{3, 1, 2, 0}) {
		t.Errorf("taken in the order %v", got)
	}
}

// A yield lays the goroutine behind all others; where there are none, it is taken again.
func TestYield(t *testing.T) {
	r := newRig(t, wide(1), program(fun(0, nil, do(api.OpYield), with(api.OpGo, 1), do(api.OpYield), do(api.OpJump, 2)), fun(0, nil, do(api.OpYield), do(api.OpJump, 0))))
	r.do(step(0, 0))
	r.do(step(0, 0))
	if r.m.Current(0) != -1 || r.m.State(0) != ready {
		t.Errorf("%d, %d", r.m.Current(0), r.m.State(0))
	}
	// In turn: each goes on once between two of the other one's times.
	var order []int
	for range 100 {
		r.do(step(0, 0))
		if g := r.m.Current(0); g >= 0 && (len(order) == 0 || order[len(order)-1] != g) {
			order = append(order, g)
		}
	}
	if len(order) < 20 {
		t.Errorf("they go on in the order %v", order)
	}
}

// One that goes on for ever is let go behind MaxSlice instructions, if another one waits; not ahead.
func TestASlice(t *testing.T) {
	r := newRig(t, wide(1), program(fun(0, nil, with(api.OpGo, 1), do(api.OpJump, 1)), fun(0, nil, do(api.OpJump, 0))))
	r.do(step(0, 0))
	for range 10 {
		for _, g := range []int{0, 1} {
			for range api.MaxSlice {
				if r.m.Current(0) != g {
					t.Fatalf("Current: %d, want %d", r.m.Current(0), g)
				}
				r.do(step(0, 0))
			}
			moves := len(r.m.Moves())
			r.do(step(0, 0))
			if r.m.Current(0) != -1 || len(r.m.Moves()) != moves {
				t.Fatalf("Current: %d, %d moves", r.m.Current(0), len(r.m.Moves())-moves)
			}
			r.do(step(0, 0))
		}
	}
}

// A sleeper is on no processor, waits, and is woken by nobody but the clock and a processor that looks.
func TestASleeper(t *testing.T) {
	r := newRig(t, wide(2), program(fun(0, kinds(num), with(api.OpGo, 1), cons(0, 10), do(api.OpSleep, 0), show(0), ret()), fun(0, nil, do(api.OpJump, 0))))
	r.until(0, 0, 3)
	r.states(waits, ready)
	r.do(step(1, 0))
	r.do(entry(api.EnTick, 0, 7))
	r.do(entry(api.EnTick, 0, 0))
	r.do(step(0, 0))
	r.states(waits, ready)
	r.do(entry(api.EnTick, 0, 0))
	r.states(waits, ready)
	// The processor 1 has a goroutine: it doesn't look.
	r.do(step(1, 0))
	r.states(waits, ready)
	r.do(step(0, 0))
	r.states(ready, ready)
	if r.m.Current(0) != 0 {
		t.Errorf("Current(0): %d", r.m.Current(0))
	}
	r.do(step(0, 0))
	if got := r.m.Trace(); !slices.Equal(got, prints(0, 10)) {
		t.Errorf("Trace: %v", got)
	}
}

// The sleepers of another processor are found by one that has nothing else.
func TestASleeperOfAnotherProcessor(t *testing.T) {
	r := newRig(t, wide(3), program(fun(0, kinds(num), cons(0, 3), do(api.OpSleep, 0), show(0), ret())))
	r.until(1, 0, 2)
	r.do(entry(api.EnTick, 0, 2))
	r.states(waits)
	r.do(step(2, 0))
	if r.m.Current(2) != 0 || r.m.State(0) != ready {
		t.Errorf("%d, %d", r.m.Current(2), r.m.State(0))
	}
}

// Nobody can go on: but as long as one sleeps, the run goes on.
func TestADeadlockOfSeveral(t *testing.T) {
	blocks := worker(1, do(api.OpSend, 0, 1), show(1))
	p := workers([]int{0}, the(cons(1, 5), do(api.OpSleep, 1), show(1), cons(2, 1), makeLine(0, 0), do(api.OpRecv, 1, 0, 2)), blocks, blocks)
	p.Funcs[0].Code = append(p.Funcs[0].Code, ret())
	r := newRig(t, wide(2), p)
	for range 60 {
		r.do(step(0, 0))
		r.do(step(1, 0))
	}
	r.states(waits, waits, waits)
	if r.m.Ended() {
		t.Errorf("Trace: %v", r.m.Trace())
	}
	r.do(entry(api.EnTick, 0, 7))
	for range 10 {
		r.do(step(1, 0))
	}
	r.states(waits, waits, waits)
	if got, want := r.m.Trace(), then(prints(0, 5), api.EvDead, 0, 0); !slices.Equal(got, want) || !r.m.Ended() {
		t.Errorf("Trace: %v, want %v", got, want)
	}
	// The last one that could go on is dead.
	r = newRig(t, wide(1), program(fun(0, kinds(line(num), num), with(api.OpGo, 1), do(api.OpSend, 0, 1), ret()), fun(0, kinds(num), do(api.OpYield), do(api.OpYield), ret())))
	got := r.finish(100)
	if want := []api.Event{event(api.EvDead, 1, 0)}; !slices.Equal(got, want) {
		t.Errorf("Trace: %v, want %v", got, want)
	}
	r.states(waits, dead)
}

// How the run ends tells what its last goroutine is, and whether it is on its processor yet.
func TestTheLastGoroutine(t *testing.T) {
	for _, c := range []struct {
		name    string
		code    []api.Ins
		state   int
		current int
	}{
		{"ret", the(ret()), dead, -1}, {"panic", the(do(api.OpPanic, 0)), dead, -1}, {"exit", the(stop(0)), ready, 0}, {"deadlock", the(do(api.OpRecv, 0, 1, 0), ret()), waits, -1},
	} {
		r := newRig(t, wide(2), program(fun(0, kinds(num, line(num)), c.code...)))
		r.finish(20)
		if !r.m.Ended() || r.m.State(0) != c.state || max(r.m.Current(0), r.m.Current(1)) != c.current {
			t.Errorf("%s: %v, %d, %d, %d", c.name, r.m.Trace(), r.m.State(0), r.m.Current(0), r.m.Current(1))
		}
	}
}
