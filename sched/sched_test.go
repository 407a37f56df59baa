package sched_test

import (
	"fmt"
	"math"
	"testing"

	"treadle/api"
	"treadle/sched"
)

const slice = api.MaxSlice

// numbers are an int's edges, and those of the processors, of a queue and of the goroutines.
func numbers() []int {
	return []int{
		math.MinInt, math.MinInt + 1, math.MinInt + 7, -api.MaxGs - 1, -api.MaxProcs - 1, -api.MaxProcs, -api.MaxProcs + 1, -3, -2, -1,
		0, 1, 2, 3, 4, 5, 6, 7, 8, 9, 16, 17, api.MaxGs - 1, api.MaxGs, api.MaxGs + 1,
		math.MaxInt - 8, math.MaxInt - 7, math.MaxInt - 1, math.MaxInt,
	}
}

// times are those at the ends, and some between.
func times() []uint64 {
	return []uint64{0, 1, 2, 5, api.MaxTicks - 1, api.MaxTicks, api.MaxTicks + 1, 1<<63 - 1, 1 << 63, 1<<63 + 1, math.MaxUint64 - 1, math.MaxUint64}
}

// made is a scheduler of so many processors.
func made(t testing.TB, procs int) *sched.Sched {
	t.Helper()
	s, e := sched.New(procs)
	if s == nil || e != api.OK {
		t.Fatalf("New(%d): %v, %d", procs, s, e)
	}
	return s
}

// want fails the test if a call's error is another one.
func want(t testing.TB, call string, got, e api.Errno) {
	t.Helper()
	if got != e {
		t.Errorf("%s: %d, want %d", call, got, e)
	}
}

// begin begins goroutines, and fails the test if their numbers are others.
func begin(t testing.TB, s *sched.Sched, p int, list ...int) {
	t.Helper()
	for _, g := range list {
		if got, e := s.Begin(p); got != g || e != api.OK {
			t.Errorf("Begin(%d): %d, %d, want %d", p, got, e, g)
		}
		state(t, s, g, api.GReady)
	}
}

// does fails the test if a processor does something else, or with another goroutine.
func does(t testing.TB, s *sched.Sched, p, start, what, g int) {
	t.Helper()
	if a, b, e := s.Act(p, start); a != what || b != g || e != api.OK {
		t.Errorf("Act(%d, %d): %d, %d, %d, want %d, %d", p, start, a, b, e, what, g)
	}
}

// takes fails the test if a processor takes others than these, each of which ends.
func takes(t testing.TB, s *sched.Sched, p, start int, list ...int) {
	t.Helper()
	for _, g := range list {
		does(t, s, p, start, sched.Took, g)
		current(t, s, p, g)
		want(t, "End", s.End(p), api.OK)
		state(t, s, g, api.GDead)
	}
}

// idles fails the test if a processor finds somebody.
func idles(t testing.TB, s *sched.Sched, p, start int) {
	t.Helper()
	does(t, s, p, start, sched.Idle, 0)
	current(t, s, p, -1)
}

// runs lets a processor's goroutine go on so many times.
func runs(t testing.TB, s *sched.Sched, p, g, n int) {
	t.Helper()
	for range n {
		does(t, s, p, 0, sched.Run, g)
		current(t, s, p, g)
	}
}

// state fails the test if a goroutine has another state.
func state(t testing.TB, s *sched.Sched, g, want int) {
	t.Helper()
	if got := s.State(g); got != want {
		t.Errorf("State(%d): %d, want %d", g, got, want)
	}
}

// current fails the test if a processor has another goroutine.
func current(t testing.TB, s *sched.Sched, p, want int) {
	t.Helper()
	if got := s.Current(p); got != want {
		t.Errorf("Current(%d): %d, want %d", p, got, want)
	}
}

// counts fails the test if the counts are others.
func counts(t testing.TB, s *sched.Sched, clock uint64, ready, timers int) {
	t.Helper()
	if a, b, c := s.Counts(); a != clock || b != ready || c != timers {
		t.Errorf("Counts: %d, %d, %d, want %d, %d, %d", a, b, c, clock, ready, timers)
	}
}

// sleeps lets a processor take a goroutine, which sleeps at once.
func sleeps(t testing.TB, s *sched.Sched, p int, when uint64, g int) {
	t.Helper()
	does(t, s, p, p, sched.Took, g)
	want(t, "Sleep", s.Sleep(p, when), api.OK)
	state(t, s, g, api.GWaits)
	current(t, s, p, -1)
}

// blocks lets a processor take a goroutine, which waits at once.
func blocks(t testing.TB, s *sched.Sched, p, g int) {
	t.Helper()
	does(t, s, p, p, sched.Took, g)
	want(t, "Block", s.Block(p), api.OK)
	state(t, s, g, api.GWaits)
	current(t, s, p, -1)
}

// ready makes goroutines ready.
func ready(t testing.TB, s *sched.Sched, p int, list ...int) {
	t.Helper()
	for _, g := range list {
		want(t, fmt.Sprintf("Ready(%d, %d)", p, g), s.Ready(p, g), api.OK)
		state(t, s, g, api.GReady)
	}
}

// count are the n numbers from first on.
func count(first, n int) []int {
	var list []int
	for i := range n {
		list = append(list, first+i)
	}
	return list
}

// modulo is start modulo n, counted by hand: n is added or taken away as one does it with small numbers.
func modulo(start, n int) int {
	if start >= 0 {
		return start % n
	}
	// -1 stands for n - 1, -2 for n - 2 .. -n for 0; start + 1 is not too small to be turned.
	return n - 1 - (-(start + 1))%n
}

func TestExample(t *testing.T) {
	s := made(t, 2)
	begin(t, s, 0, 0, 1)
	does(t, s, 0, 0, sched.Took, 1)
	does(t, s, 0, 0, sched.Run, 1)
	does(t, s, 1, 0, sched.Took, 0)
	want(t, "Sleep", s.Sleep(0, 3), api.OK)
	does(t, s, 0, 0, sched.Idle, 0)
	s.Tick(3)
	does(t, s, 0, 0, sched.Took, 1)
	begin(t, s, 0, 2)
	runs(t, s, 0, 1, 16)
	does(t, s, 0, 0, sched.Let, 1)
}

func TestNumbersOfWhat(t *testing.T) {
	if sched.Idle != 1 || sched.Took != 2 || sched.Run != 3 || sched.Let != 4 {
		t.Errorf("%d, %d, %d, %d", sched.Idle, sched.Took, sched.Run, sched.Let)
	}
}

func TestNew(t *testing.T) {
	for _, procs := range numbers() {
		s, e := sched.New(procs)
		if procs < 1 || procs > api.MaxProcs {
			if s != nil || e != api.ErrArg {
				t.Errorf("New(%d): %v, %d", procs, s, e)
			}
			continue
		}
		if s == nil || e != api.OK {
			t.Fatalf("New(%d): %v, %d", procs, s, e)
		}
		counts(t, s, 0, 0, 0)
		for g := range api.MaxGs {
			state(t, s, g, api.GNone)
		}
		for p := range procs {
			current(t, s, p, -1)
			idles(t, s, p, 0)
		}
		begin(t, s, procs-1, 0)
		takes(t, s, procs-1, 0, 0)
		if _, _, e := s.Act(procs, 0); e != api.ErrArg {
			t.Errorf("Act(%d, 0) of %d processors: %d", procs, procs, e)
		}
	}
}

// The last one that was begun is next, and those ahead of it stand in the queue, in order.
func TestBeginMakesTheNextOne(t *testing.T) {
	s := made(t, 3)
	begin(t, s, 1, count(0, api.QueueCap+1)...)
	counts(t, s, 0, api.QueueCap+1, 0)
	begin(t, s, 1, api.QueueCap+1)
	counts(t, s, 0, api.QueueCap+2, 0)
	// The queue was full: its first half, and what was the next one, stand behind the queue for all.
	takes(t, s, 1, 0, api.QueueCap+1, 4, 5, 6, 7, 0, 1, 2, 3, 8)
	idles(t, s, 1, 0)
	counts(t, s, 0, 0, 0)
}

// On one processor and on several, beside goroutines that run, wait, sleep and are dead: MaxGs, and none more.
func TestBeginUpToMaxGs(t *testing.T) {
	for procs := 1; procs <= api.MaxProcs; procs++ {
		s := made(t, procs)
		for g := range api.MaxGs {
			begin(t, s, g%procs, g)
			counts(t, s, 0, g+1, 0)
		}
		for p := range procs {
			refusesBegin(t, s, p, api.ErrFull)
		}
		counts(t, s, 0, api.MaxGs, 0)
		met := map[int]bool{}
		for i := range api.MaxGs {
			what, g, e := s.Act(i%procs, i)
			if what != sched.Took || e != api.OK || met[g] {
				t.Fatalf("the one taken as %d of %d: %d, %d, %d, %v", i, procs, what, g, e, met[g])
			}
			met[g] = true
			want(t, "End", s.End(i%procs), api.OK)
			refusesBegin(t, s, i%procs, api.ErrFull)
			counts(t, s, 0, api.MaxGs-i-1, 0)
		}
		idles(t, s, procs-1, 0)
	}
}

// refusesBegin fails the test if Begin answers another error, or a number.
func refusesBegin(t testing.TB, s *sched.Sched, p int, e api.Errno) {
	t.Helper()
	if got, f := s.Begin(p); got != 0 || f != e {
		t.Errorf("Begin(%d): %d, %d, want 0, %d", p, got, f, e)
	}
	state(t, s, api.MaxGs, api.GNone)
}

// The dead ones count: numbers are not given out again.
func TestBeginBehindTheDead(t *testing.T) {
	s := made(t, 2)
	for g := range api.MaxGs {
		counts(t, s, 0, 0, 0)
		begin(t, s, g%2, g)
		takes(t, s, 1-g%2, 0, g)
	}
	counts(t, s, 0, 0, 0)
	refusesBegin(t, s, 0, api.ErrFull)
	refusesBegin(t, s, 1, api.ErrFull)
	refusesBegin(t, s, 2, api.ErrArg)
	refusesBegin(t, s, -1, api.ErrArg)
	for g := range api.MaxGs {
		state(t, s, g, api.GDead)
	}
	idles(t, s, 0, 0)
}

// Nobody waits: it goes on again and again.
func TestRunAlone(t *testing.T) {
	for procs := range api.MaxProcs {
		s := made(t, procs+1)
		begin(t, s, procs, 0)
		does(t, s, procs, 0, sched.Took, 0)
		runs(t, s, procs, 0, 10*slice)
		state(t, s, 0, api.GReady)
		counts(t, s, 0, 1, 0)
	}
}

// Whoever waits in the processor's queue or in the queue for all is waited for MaxSlice times, however long the goroutine was on alone ahead of that.
func TestLet(t *testing.T) {
	waits := []struct {
		name string
		lay  func(s *sched.Sched)
		next []int
	}{
		{"next", func(s *sched.Sched) { s.Begin(0) }, []int{3, 0}},
		{"queue and next", func(s *sched.Sched) { s.Begin(0); s.Begin(0) }, []int{4, 3, 0}},
		{"all", func(s *sched.Sched) { s.Act(1, 1); s.Yield(1) }, []int{1, 0}},
		{"all, of two", func(s *sched.Sched) { s.Act(1, 1); s.Yield(1); s.Act(2, 2); s.Yield(2) }, []int{1, 2, 0}},
		{"one that is woken", func(s *sched.Sched) { s.Act(1, 1); s.Block(1); s.Ready(0, 1) }, []int{1, 0}},
	}
	for _, c := range waits {
		for ahead := range 2*slice + 2 {
			s := made(t, 3)
			begin(t, s, 0, 0)
			does(t, s, 0, 0, sched.Took, 0)
			begin(t, s, 1, 1)
			begin(t, s, 2, 2)
			runs(t, s, 0, 0, ahead)
			c.lay(s)
			runs(t, s, 0, 0, max(slice-ahead, 0))
			_, ready, timers := s.Counts()
			does(t, s, 0, 0, sched.Let, 0)
			state(t, s, 0, api.GReady)
			current(t, s, 0, -1)
			counts(t, s, 0, ready, timers)
			for _, g := range c.next {
				does(t, s, 0, 0, sched.Took, g)
				want(t, "Block", s.Block(0), api.OK)
			}
			if t.Failed() {
				t.Fatalf("%s, behind %d times", c.name, ahead)
			}
		}
	}
}

// The queue alone has somebody, and no next one: the next one was taken.
func TestLetForTheQueueAlone(t *testing.T) {
	s := made(t, 1)
	begin(t, s, 0, 0, 1)
	does(t, s, 0, 0, sched.Took, 1)
	runs(t, s, 0, 1, slice)
	does(t, s, 0, 0, sched.Let, 1)
	does(t, s, 0, 0, sched.Took, 0)
	runs(t, s, 0, 0, slice)
	does(t, s, 0, 0, sched.Let, 0)
	takes(t, s, 0, 0, 1, 0)
	idles(t, s, 0, 0)
}

// Behind Let the goroutine stands behind all that the queue for all has, though that be many.
func TestLetLaysBehindAll(t *testing.T) {
	s := made(t, 2)
	begin(t, s, 0, 0)
	does(t, s, 0, 0, sched.Took, 0)
	begin(t, s, 0, count(1, api.QueueCap+2)...)
	runs(t, s, 0, 0, slice)
	does(t, s, 0, 0, sched.Let, 0)
	begin(t, s, 1, 11)
	does(t, s, 1, 0, sched.Took, 11)
	want(t, "Yield", s.Yield(1), api.OK)
	takes(t, s, 0, 0, 10, 5, 6, 7, 8, 1, 2, 3, 4, 9, 0, 11)
	idles(t, s, 0, 0)
}

// Others' queues and others' goroutines, timers that are due, and those who wait are not waited for.
func TestNoLetForOthers(t *testing.T) {
	s := made(t, 3)
	begin(t, s, 0, 0, 1, 2)
	sleeps(t, s, 0, 0, 2)
	blocks(t, s, 1, 0)
	does(t, s, 2, 2, sched.Took, 1)
	does(t, s, 0, 0, sched.Took, 2)
	begin(t, s, 1, 3, 4, 5)
	runs(t, s, 0, 2, 3*slice)
	runs(t, s, 2, 1, 3*slice)
	want(t, "Sleep", s.Sleep(2, 0), api.OK)
	s.Tick(5)
	runs(t, s, 0, 2, slice)
	ready(t, s, 1, 0)
	runs(t, s, 0, 2, slice)
	begin(t, s, 0, 6)
	does(t, s, 0, 0, sched.Let, 2)
}

// It is counted from taking on: a goroutine that is taken again, or another one, has all its times.
func TestTimesAreCountedFromTaking(t *testing.T) {
	s := made(t, 2)
	begin(t, s, 0, 0, 1)
	does(t, s, 0, 0, sched.Took, 1)
	runs(t, s, 0, 1, slice-1)
	want(t, "Yield", s.Yield(0), api.OK)
	does(t, s, 0, 0, sched.Took, 0)
	runs(t, s, 0, 0, slice-1)
	want(t, "Block", s.Block(0), api.OK)
	begin(t, s, 0, 2)
	does(t, s, 0, 0, sched.Took, 2)
	runs(t, s, 0, 2, slice)
	does(t, s, 0, 0, sched.Let, 2)
	does(t, s, 0, 0, sched.Took, 1)
	ready(t, s, 0, 0)
	runs(t, s, 0, 1, 5)
	want(t, "Sleep", s.Sleep(0, 0), api.OK)
	does(t, s, 0, 0, sched.Took, 1)
	runs(t, s, 0, 1, slice)
	does(t, s, 0, 0, sched.Let, 1)
}

// What one processor does isn't counted for another, nor is a clock that goes on.
func TestTimesAreCountedOfEach(t *testing.T) {
	s := made(t, 2)
	begin(t, s, 0, 0, 1)
	begin(t, s, 1, 2, 3)
	does(t, s, 0, 0, sched.Took, 1)
	does(t, s, 1, 0, sched.Took, 3)
	runs(t, s, 0, 1, slice-1)
	s.Tick(100)
	runs(t, s, 1, 3, slice)
	runs(t, s, 0, 1, 1)
	does(t, s, 0, 0, sched.Let, 1)
	does(t, s, 1, 1, sched.Let, 3)
	takes(t, s, 1, 0, 2, 1, 3, 0)
}

// Those whose time has come are woken ahead of Get, by their times, and of one time in the order in which they fell asleep: who is woken last is next.
func TestOwnTimersAheadOfGet(t *testing.T) {
	s := made(t, 2)
	begin(t, s, 0, 0, 1, 2, 3)
	sleeps(t, s, 0, 5, 3)
	sleeps(t, s, 0, 4, 0)
	sleeps(t, s, 0, 5, 1)
	sleeps(t, s, 0, 6, 2)
	begin(t, s, 0, 4, 5)
	counts(t, s, 0, 2, 4)
	s.Tick(5)
	counts(t, s, 5, 2, 4)
	for _, g := range []int{0, 1, 2, 3} {
		state(t, s, g, api.GWaits)
	}
	does(t, s, 0, 0, sched.Took, 1)
	counts(t, s, 5, 5, 1)
	for _, g := range []int{0, 1, 3, 4, 5} {
		state(t, s, g, api.GReady)
	}
	state(t, s, 2, api.GWaits)
	want(t, "End", s.End(0), api.OK)
	takes(t, s, 0, 0, 4, 5, 0, 3)
	idles(t, s, 0, 0)
	s.Tick(1)
	takes(t, s, 0, 0, 2)
	counts(t, s, 6, 0, 0)
}

// Many are woken at once: what the queue can't hold stands in the queue for all.
func TestManyTimersAtOnce(t *testing.T) {
	s := made(t, 1)
	const n = 2*api.QueueCap + 3
	for g := range n {
		begin(t, s, 0, g)
		sleeps(t, s, 0, uint64(n-g), g)
	}
	counts(t, s, 0, 0, n)
	idles(t, s, 0, 0)
	s.Tick(n)
	does(t, s, 0, 0, sched.Took, 0)
	counts(t, s, n, n, 0)
	// The woken ones are n - 1, n - 2 .. 0: twice the first half of the queue, and the next one, went behind the queue for all.
	want(t, "End", s.End(0), api.OK)
	takes(t, s, 0, 0, 9, 8, 7, 6, 4, 3, 2, 1)
	takes(t, s, 0, 0, 18, 17, 16, 15, 10, 14, 13, 12, 11, 5)
	idles(t, s, 0, 0)
}

// A processor that has a goroutine looks at no timers, and Let looks at none either.
func TestNoTimersWhileOneIsOn(t *testing.T) {
	s := made(t, 2)
	begin(t, s, 0, 0, 1, 2)
	sleeps(t, s, 0, 1, 2)
	does(t, s, 0, 0, sched.Took, 0)
	s.Tick(9)
	runs(t, s, 0, 0, slice)
	state(t, s, 2, api.GWaits)
	counts(t, s, 9, 2, 1)
	does(t, s, 0, 0, sched.Let, 0)
	state(t, s, 2, api.GWaits)
	counts(t, s, 9, 2, 1)
	takes(t, s, 0, 0, 2, 1, 0)
	idles(t, s, 0, 0)
}

// Get begins its stealing with start.
func TestStealingBeginsAtStart(t *testing.T) {
	for procs := 1; procs <= api.MaxProcs; procs++ {
		for p := range procs {
			for _, start := range numbers() {
				s := made(t, procs)
				for at := range procs {
					begin(t, s, at, at)
				}
				takes(t, s, p, start, p)
				first := modulo(start, procs)
				for i := range procs {
					if at := (first + i) % procs; at != p {
						takes(t, s, p, start, at)
					}
				}
				idles(t, s, p, start)
				if t.Failed() {
					t.Fatalf("%d processors, start %d", procs, start)
				}
			}
		}
	}
}

// Of a queue the first half is stolen, and stands in the thief's queue.
func TestStealingTakesHalf(t *testing.T) {
	s := made(t, 2)
	begin(t, s, 0, count(0, 6)...)
	does(t, s, 1, 0, sched.Took, 0)
	runs(t, s, 1, 0, slice)
	does(t, s, 1, 0, sched.Let, 0)
	takes(t, s, 1, 0, 1, 2, 0, 3, 4, 5)
	idles(t, s, 1, 0)
	idles(t, s, 0, 0)
}

// The timers of another one are looked at from start on, as Get goes through the processors, and only of the first one that has one that is due.
func TestOthersTimersFromStart(t *testing.T) {
	for procs := 2; procs <= api.MaxProcs; procs++ {
		for p := range procs {
			for _, start := range numbers() {
				s := made(t, procs)
				for at := range procs {
					begin(t, s, at, at)
					sleeps(t, s, at, 3, at)
				}
				s.Tick(3)
				takes(t, s, p, start, p)
				left := procs - 1
				first := modulo(start, procs)
				for i := range procs {
					at := (first + i) % procs
					if at == p {
						continue
					}
					counts(t, s, 3, 0, left)
					state(t, s, at, api.GWaits)
					takes(t, s, p, start, at)
					left--
				}
				idles(t, s, p, start)
				if t.Failed() {
					t.Fatalf("%d processors, start %d", procs, start)
				}
			}
		}
	}
}

// One without timers, and one whose first timer isn't due, are passed over.
func TestOthersTimersThatAreNotDue(t *testing.T) {
	for start := range 5 {
		s := made(t, 5)
		begin(t, s, 1, 0)
		sleeps(t, s, 1, 11, 0)
		begin(t, s, 3, 1)
		sleeps(t, s, 3, 10, 1)
		begin(t, s, 3, 2)
		sleeps(t, s, 3, 12, 2)
		begin(t, s, 4, 3)
		sleeps(t, s, 4, 13, 3)
		s.Tick(9)
		idles(t, s, 0, start)
		idles(t, s, 2, start)
		counts(t, s, 9, 0, 4)
		s.Tick(1)
		takes(t, s, 0, start, 1)
		counts(t, s, 10, 0, 3)
		idles(t, s, 0, start)
		// The other timer of the processor 3 is the processor 0's now, and is looked at ahead of all others.
		s.Tick(3)
		takes(t, s, 0, 3, 2)
		counts(t, s, 13, 0, 2)
	}
}

// All timers are moved, and of those that are due the last one is taken; who is woken stands with the processor that found them.
func TestOthersTimersAreMoved(t *testing.T) {
	s := made(t, 3)
	for g, when := range []uint64{4, 2, 4, 1, 9, 7} {
		begin(t, s, 1, g)
		sleeps(t, s, 1, when, g)
	}
	begin(t, s, 0, 6)
	sleeps(t, s, 0, 8, 6)
	s.Tick(4)
	does(t, s, 0, 2, sched.Took, 2)
	counts(t, s, 4, 4, 3)
	// No timer is the processor 1's any more.
	s.Tick(5)
	want(t, "End", s.End(0), api.OK)
	takes(t, s, 1, 0, 3, 1, 0)
	counts(t, s, 9, 0, 3)
	// The processor 0's own come in one row with those that it was given: 5, 6 and 4 are woken.
	does(t, s, 0, 0, sched.Took, 4)
	counts(t, s, 9, 3, 0)
	want(t, "Yield", s.Yield(0), api.OK)
	takes(t, s, 0, 0, 5, 6, 4)
	idles(t, s, 0, 0)
}

// Where Get finds somebody, be it in the processor's queue, in the queue for all or with another one, nobody else's timers are looked at.
func TestOthersTimersOnlyWhereGetFindsNobody(t *testing.T) {
	for _, c := range []struct {
		name string
		lay  func(s *sched.Sched)
		g    int
	}{
		{"next", func(s *sched.Sched) { s.Begin(0) }, 3},
		{"all", func(s *sched.Sched) { s.Begin(2); s.Act(2, 2); s.Yield(2) }, 3},
		{"another's", func(s *sched.Sched) { s.Begin(2) }, 3},
		{"the sleeper's", func(s *sched.Sched) { s.Begin(1) }, 3},
		{"one that is woken", func(s *sched.Sched) { s.Ready(2, 1) }, 1},
		{"its own timers", func(s *sched.Sched) { s.Begin(0); s.Act(0, 0); s.Sleep(0, 2) }, 3},
	} {
		s := made(t, 3)
		begin(t, s, 1, 0)
		sleeps(t, s, 1, 1, 0)
		begin(t, s, 1, 1)
		blocks(t, s, 1, 1)
		begin(t, s, 1, 2)
		sleeps(t, s, 1, 9, 2)
		c.lay(s)
		s.Tick(3)
		does(t, s, 0, 1, sched.Took, c.g)
		state(t, s, 0, api.GWaits)
		counts(t, s, 3, 1, 2)
		want(t, "End", s.End(0), api.OK)
		// The processor 1 has its timers yet.
		takes(t, s, 1, 0, 0)
		s.Tick(6)
		begin(t, s, 1, unused(s))
		does(t, s, 1, 0, sched.Took, 2)
		if t.Failed() {
			t.Fatal(c.name)
		}
	}
}

// unused is the number of the next goroutine that is begun.
func unused(s *sched.Sched) int {
	g := 0
	for s.State(g) != api.GNone {
		g++
	}
	return g
}

// Yield: ready, behind all others, and the processor takes another one.
func TestYield(t *testing.T) {
	s := made(t, 2)
	begin(t, s, 0, 0, 1, 2)
	does(t, s, 0, 0, sched.Took, 2)
	want(t, "Yield", s.Yield(0), api.OK)
	state(t, s, 2, api.GReady)
	current(t, s, 0, -1)
	counts(t, s, 0, 3, 0)
	want(t, "Yield", s.Yield(0), api.ErrNone)
	does(t, s, 0, 0, sched.Took, 0)
	want(t, "Yield", s.Yield(0), api.OK)
	does(t, s, 0, 0, sched.Took, 1)
	want(t, "Yield", s.Yield(0), api.OK)
	takes(t, s, 1, 0, 2, 0, 1)
}

// One that yields alone is taken again.
func TestYieldAlone(t *testing.T) {
	s := made(t, 1)
	begin(t, s, 0, 0)
	for range 3 {
		does(t, s, 0, 0, sched.Took, 0)
		want(t, "Yield", s.Yield(0), api.OK)
		counts(t, s, 0, 1, 0)
	}
}

// Block: it waits, and is in no queue; Ready: it is next on the processor that is told, whichever it was on.
func TestBlockAndReady(t *testing.T) {
	s := made(t, 3)
	begin(t, s, 0, 0, 1, 2)
	blocks(t, s, 0, 2)
	counts(t, s, 0, 2, 0)
	does(t, s, 0, 0, sched.Took, 0)
	blocks(t, s, 1, 1)
	idles(t, s, 2, 0)
	s.Tick(100)
	idles(t, s, 2, 0)
	begin(t, s, 2, 3, 4)
	ready(t, s, 2, 2, 1)
	counts(t, s, 100, 5, 0)
	takes(t, s, 2, 0, 1, 3, 4, 2)
	runs(t, s, 0, 0, 2*slice)
	want(t, "End", s.End(0), api.OK)
	idles(t, s, 0, 0)
}

func TestReadyOfOthersThanThoseWhoWait(t *testing.T) {
	s := made(t, 2)
	begin(t, s, 0, 0)
	takes(t, s, 0, 0, 0)
	begin(t, s, 0, 1)
	sleeps(t, s, 0, 2, 1)
	begin(t, s, 0, 2)
	blocks(t, s, 0, 2)
	begin(t, s, 0, 3, 4)
	does(t, s, 0, 0, sched.Took, 4)
	begin(t, s, 0, 5)
	does(t, s, 1, 0, sched.Took, 3)
	want(t, "Yield", s.Yield(1), api.OK)
	refused := func(list ...int) {
		t.Helper()
		for _, g := range list {
			for p := range 2 {
				want(t, fmt.Sprintf("Ready(%d, %d)", p, g), s.Ready(p, g), api.ErrNone)
			}
		}
	}
	refused(0, 1, 3, 4, 5, 6, 7, -1, api.MaxGs-1, api.MaxGs, math.MinInt, math.MaxInt)
	s.Tick(2)
	// Its time has come, but nobody has woken it.
	refused(1)
	state(t, s, 1, api.GWaits)
	counts(t, s, 2, 3, 1)
	ready(t, s, 1, 2)
	refused(2)
	does(t, s, 1, 0, sched.Took, 2)
	refused(2)
	want(t, "End", s.End(0), api.OK)
	refused(4)
	does(t, s, 0, 0, sched.Took, 1)
	refused(1)
	want(t, "Block", s.Block(0), api.OK)
	ready(t, s, 0, 1)
	want(t, "End", s.End(1), api.OK)
	takes(t, s, 0, 0, 1, 5, 3)
	idles(t, s, 0, 0)
}

// A goroutine that has slept may wait, and one that has waited may sleep, again and again.
func TestSleepAndWaitInTurn(t *testing.T) {
	s := made(t, 1)
	begin(t, s, 0, 0)
	for i := range uint64(5) {
		sleeps(t, s, 0, i+1, 0)
		want(t, "Ready", s.Ready(0, 0), api.ErrNone)
		counts(t, s, i, 0, 1)
		idles(t, s, 0, 0)
		s.Tick(1)
		blocks(t, s, 0, 0)
		counts(t, s, i+1, 0, 0)
		idles(t, s, 0, 0)
		ready(t, s, 0, 0)
		counts(t, s, i+1, 1, 0)
	}
}

// A time that is past or now: it is woken when a processor acts, not ahead of that; one to come: when the clock is there.
func TestSleepAtATime(t *testing.T) {
	for _, now := range []uint64{0, 1, 7, api.MaxTicks - 1, api.MaxTicks} {
		for _, when := range append(times(), now, now+1, now+2) {
			s := made(t, 1)
			s.Tick(now)
			begin(t, s, 0, 0)
			sleeps(t, s, 0, when, 0)
			counts(t, s, now, 0, 1)
			want(t, "Ready", s.Ready(0, 0), api.ErrNone)
			switch {
			case when <= now:
				takes(t, s, 0, 0, 0)
				counts(t, s, now, 0, 0)
			case when <= api.MaxTicks:
				idles(t, s, 0, 0)
				s.Tick(when - now - 1)
				idles(t, s, 0, 0)
				counts(t, s, when-1, 0, 1)
				s.Tick(1)
				counts(t, s, when, 0, 1)
				takes(t, s, 0, 0, 0)
			default:
				s.Tick(math.MaxUint64)
				idles(t, s, 0, 0)
				counts(t, s, api.MaxTicks, 0, 1)
			}
			if t.Failed() {
				t.Fatalf("at %d until %d", now, when)
			}
		}
	}
}

// All goroutines sleep at once, on one processor and on several.
func TestAllSleep(t *testing.T) {
	for _, procs := range []int{1, 3, api.MaxProcs} {
		s := made(t, procs)
		for g := range api.MaxGs {
			begin(t, s, g%procs, g)
			sleeps(t, s, g%procs, uint64(g+1), g)
		}
		counts(t, s, 0, 0, api.MaxGs)
		for g := range api.MaxGs {
			idles(t, s, 0, 0)
			s.Tick(1)
			takes(t, s, 0, 0, g)
		}
		counts(t, s, api.MaxGs, 0, 0)
	}
}

// End: dead, and met by nobody any more.
func TestEnd(t *testing.T) {
	s := made(t, 2)
	begin(t, s, 0, 0, 1)
	does(t, s, 0, 0, sched.Took, 1)
	want(t, "End", s.End(0), api.OK)
	state(t, s, 1, api.GDead)
	current(t, s, 0, -1)
	counts(t, s, 0, 1, 0)
	want(t, "End", s.End(0), api.ErrNone)
	takes(t, s, 1, 0, 0)
	s.Tick(api.MaxTicks)
	idles(t, s, 0, 0)
	idles(t, s, 1, 0)
	counts(t, s, api.MaxTicks, 0, 0)
}

// The clock goes on to MaxTicks and stays there, without wrapping round.
func TestTick(t *testing.T) {
	for _, n := range times() {
		for _, m := range times() {
			s := made(t, 1)
			clock := min(n, api.MaxTicks)
			s.Tick(n)
			counts(t, s, clock, 0, 0)
			s.Tick(0)
			counts(t, s, clock, 0, 0)
			s.Tick(m)
			clock = min(clock+min(m, api.MaxTicks), api.MaxTicks)
			counts(t, s, clock, 0, 0)
			s.Tick(math.MaxUint64)
			s.Tick(1)
			s.Tick(math.MaxUint64 - api.MaxTicks + 1)
			counts(t, s, api.MaxTicks, 0, 0)
		}
	}
	s := made(t, 1)
	for i := range uint64(100) {
		s.Tick(i)
		counts(t, s, i*(i+1)/2, 0, 0)
	}
}

// Of processors and goroutines that there aren't.
func TestWhatThereIsnt(t *testing.T) {
	for procs := 1; procs <= api.MaxProcs; procs++ {
		s := made(t, procs)
		begin(t, s, 0, 0, 1)
		does(t, s, 0, 0, sched.Took, 1)
		for _, x := range numbers() {
			if x != 0 {
				current(t, s, x, -1)
			}
			if x < 0 || x > 1 {
				state(t, s, x, api.GNone)
			}
		}
		current(t, s, 0, 1)
	}
}

// A refused call leaves all as it was, and ErrArg comes ahead of the other errors.
func TestWrongInput(t *testing.T) {
	for _, procs := range []int{1, 2, api.MaxProcs} {
		s := made(t, procs)
		begin(t, s, 0, 0, 1, 2)
		sleeps(t, s, 0, 1, 2)
		s.Tick(1)
		blocks(t, s, 0, 2)
		for _, x := range numbers() {
			if x >= 0 && x < procs {
				for _, e := range []api.Errno{s.Yield(x), s.Block(x), s.Sleep(x, 0), s.End(x)} {
					want(t, "Of a processor without a goroutine", e, api.ErrNone)
				}
				continue
			}
			refusesBegin(t, s, x, api.ErrArg)
			for _, start := range numbers() {
				if what, g, e := s.Act(x, start); what != 0 || g != 0 || e != api.ErrArg {
					t.Errorf("Act(%d, %d): %d, %d, %d", x, start, what, g, e)
				}
			}
			for _, e := range []api.Errno{s.Yield(x), s.Block(x), s.Sleep(x, 0), s.End(x)} {
				want(t, "Of no processor", e, api.ErrArg)
			}
			for _, g := range []int{0, 1, 2, 3, -1, math.MinInt, math.MaxInt} {
				want(t, "Ready on no processor", s.Ready(x, g), api.ErrArg)
			}
		}
		counts(t, s, 1, 2, 0)
		takes(t, s, 0, 0, 0, 1)
		idles(t, s, 0, 0)
		ready(t, s, 0, 2)
		takes(t, s, 0, 0, 2)
		begin(t, s, 0, 3)
	}
}

func TestNilSched(t *testing.T) {
	var s *sched.Sched
	for _, x := range numbers() {
		refusesBegin(t, s, x, api.ErrState)
		for _, y := range numbers() {
			if what, g, e := s.Act(x, y); what != 0 || g != 0 || e != api.ErrState {
				t.Errorf("Act(%d, %d): %d, %d, %d", x, y, what, g, e)
			}
			want(t, "Ready", s.Ready(x, y), api.ErrState)
		}
		for _, when := range times() {
			want(t, "Sleep", s.Sleep(x, when), api.ErrState)
			s.Tick(when)
		}
		for _, e := range []api.Errno{s.Yield(x), s.Block(x), s.End(x)} {
			want(t, "Yield, Block, End", e, api.ErrState)
		}
		state(t, s, x, api.GNone)
		current(t, s, x, -1)
	}
	counts(t, s, 0, 0, 0)
}

// Schedulers that are told the same answer the same, though others were told much between.
func TestAnswersHangOnWhatWasTold(t *testing.T) {
	first := walk(t)
	other := made(t, 2)
	begin(t, other, 0, 0, 1)
	does(t, other, 0, 0, sched.Took, 1)
	if second := walk(t); second != first {
		t.Errorf("first %s, and then %s", first, second)
	}
	takes(t, other, 1, 0, 0)
	runs(t, other, 0, 1, 1)
}

// walk is what a scheduler answers to some calls.
func walk(t *testing.T) string {
	s := made(t, 3)
	told := ""
	for i := range 400 {
		c := call{kind: (i*7 + i/3) % kinds, p: i%5 - 1, x: i % 11, n: uint64(i % 4)}
		clock, ready, timers := s.Counts()
		told += fmt.Sprint(" ", tell(s, c), clock, ready, timers)
	}
	return told
}

// Each row of a few calls on two processors, two goroutines of which were begun, is held against the model.
func TestEachShortRowOfCalls(t *testing.T) {
	row := []call{
		{kind: doAct, p: 0, x: 1},
		{kind: doAct, p: 1, x: 0},
		{kind: doYield, p: 0},
		{kind: doBlock, p: 1},
		{kind: doReady, p: 0, x: 0},
		{kind: doSleep, p: 0, n: 1},
		{kind: doTick, n: 1},
		{kind: doBegin, p: 1},
	}
	const length = 5
	rows := 1
	for range length {
		rows *= len(row)
	}
	for i := range rows {
		p := newPair(t, 2)
		p.do(call{kind: doBegin, p: 0})
		p.do(call{kind: doBegin, p: 0})
		for rest := i; len(p.told) < length+2; rest /= len(row) {
			p.do(row[rest%len(row)])
		}
		p.drain()
		if t.Failed() {
			t.FailNow()
		}
	}
}

// dice are numbers of a rule that gives the same each time.
type dice uint64

// roll is the next number below n.
func (d *dice) roll(n int) int {
	*d = *d*6364136223846793005 + 1442695040888963407
	return int(*d >> 33 % dice(n))
}

// often are the calls of a long walk, by how often they come; which ones come more often changes as it goes on.
func often(d *dice, phase int) int {
	list := [][]int{
		{doBegin, doAct, doAct, doAct, doYield, doSleep, doTick, doReady},
		{doAct, doAct, doAct, doAct, doAct, doAct, doAct, doReady},
		{doAct, doAct, doBlock, doSleep, doSleep, doTick, doBlock, doAct},
		{doAct, doAct, doReady, doReady, doReady, doTick, doAct, doYield},
	}[phase%4]
	return list[d.roll(len(list))]
}

// In long walks nobody is lost and nobody is met twice, all is as the model has it, and refused calls change nothing.
func TestLongWalk(t *testing.T) {
	d := dice(17)
	for procs := 1; procs <= api.MaxProcs; procs++ {
		for range 6 {
			p := newPair(t, procs)
			for i := range 900 {
				c := call{kind: often(&d, i/75), p: d.roll(procs), x: d.roll(api.MaxGs), n: uint64(d.roll(3))}
				if c.kind == doSleep {
					c.n += p.m.clock + uint64(d.roll(12)) - min(p.m.clock, 4)
				}
				p.do(c)
				if i%30 == 0 {
					p.wrong(d.roll(1000) - 500)
					p.drain()
				}
				if i%120 == 119 {
					p.do(call{kind: doEnd, p: d.roll(procs)})
				}
				if t.Failed() {
					t.FailNow()
				}
			}
			p.drain()
		}
	}
}

// A call that panics fails the test by itself.
func FuzzCalls(f *testing.F) {
	for i, x := range numbers() {
		f.Add(i%9, x, x, uint64(x), []byte{byte(i), 1, 2, 3, 4, 5, 6, 7})
		f.Add(8, i, x, uint64(i), []byte("\x00\x00\x00\x00\x09\x11\x19\x01\x0c\x04\x0d\x3f\x07\x01\x09"))
	}
	f.Fuzz(func(t *testing.T, procs, x, y int, when uint64, calls []byte) {
		p := newPair(t, modulo(procs, api.MaxProcs)+1)
		for i, c := range calls[:min(len(calls), 200)] {
			p.do(call{kind: int(c) % kinds, p: int(c) / kinds % 9, x: y + i, n: when})
			p.do(call{kind: int(c) / kinds % kinds, p: i % len(p.m.units), x: i % 8, n: uint64(i)})
		}
		for kind := range kinds {
			p.do(call{kind: kind, p: x, x: y, n: when})
		}
		p.s.State(x)
		p.s.Current(y)
		p.drain()
	})
}
