package queue_test

import (
	"fmt"
	"math"
	"testing"

	"treadle/api"
	"treadle/queue"
)

const (
	full = api.QueueCap
	half = api.QueueCap / 2
)

// numbers are an int's edges, and those of the processors and of a queue.
func numbers() []int {
	return []int{
		math.MinInt, math.MinInt + 1, math.MinInt + 7, -api.MaxProcs - 1, -api.MaxProcs, -api.MaxProcs + 1, -3, -2, -1,
		0, 1, 2, 3, 4, 5, 6, 7, 8, 9, 16, 17,
		math.MaxInt - 8, math.MaxInt - 7, math.MaxInt - 1, math.MaxInt,
	}
}

// made are queues for so many processors.
func made(t testing.TB, procs int) *queue.Queues {
	t.Helper()
	q, e := queue.New(procs)
	if q == nil || e != api.OK {
		t.Fatalf("New(%d): %v, %d", procs, q, e)
	}
	return q
}

// want fails the test if a call's error is another one.
func want(t testing.TB, call string, got, e api.Errno) {
	t.Helper()
	if got != e {
		t.Errorf("%s: %d, want %d", call, got, e)
	}
}

// put puts numbers, one behind the other.
func put(t testing.TB, q *queue.Queues, p int, list ...int) {
	t.Helper()
	for _, g := range list {
		want(t, fmt.Sprintf("Put(%d, %d)", p, g), q.Put(p, g), api.OK)
	}
}

// last lays numbers behind the queue for all.
func last(t testing.TB, q *queue.Queues, list ...int) {
	t.Helper()
	for _, g := range list {
		want(t, fmt.Sprintf("Last(%d)", g), q.Last(g), api.OK)
	}
}

// gets fails the test if a processor takes others than these, one behind the other.
func gets(t testing.TB, q *queue.Queues, p, start int, list ...int) {
	t.Helper()
	for i, g := range list {
		if got, found := q.Get(p, start); got != g || !found {
			t.Errorf("Get(%d, %d), the call %d: %d, %v, want %d", p, start, i, got, found, g)
		}
	}
}

// lacks fails the test if a processor takes one.
func lacks(t testing.TB, q *queue.Queues, p, start int) {
	t.Helper()
	if got, found := q.Get(p, start); got != 0 || found {
		t.Errorf("Get(%d, %d): %d, %v, want none", p, start, got, found)
	}
}

// waiting fails the test if a processor, or the queue for all, has another number of them.
func waiting(t testing.TB, q *queue.Queues, p, own, all int) {
	t.Helper()
	if x, y := q.Waiting(p); x != own || y != all {
		t.Errorf("Waiting(%d): %d, %d, want %d, %d", p, x, y, own, all)
	}
}

// count are the n numbers from first on.
func count(first, n int) []int {
	var list []int
	for i := range n {
		list = append(list, first+i)
	}
	return list
}

func TestExample(t *testing.T) {
	q := made(t, 1)
	put(t, q, 0, 1, 2, 3)
	waiting(t, q, 0, 3, 0)
	gets(t, q, 0, 0, 3, 1)
	q = made(t, 2)
	put(t, q, 0, 1, 2, 3, 4)
	gets(t, q, 1, 0, 1)
	waiting(t, q, 1, 1, 0)
	gets(t, q, 1, 0, 2, 3, 4)
	lacks(t, q, 1, 0)
}

func TestNew(t *testing.T) {
	for _, procs := range numbers() {
		q, e := queue.New(procs)
		if procs < 1 || procs > api.MaxProcs {
			if q != nil || e != api.ErrArg {
				t.Errorf("New(%d): %v, %d", procs, q, e)
			}
			continue
		}
		if q == nil || e != api.OK {
			t.Fatalf("New(%d): %v, %d", procs, q, e)
		}
		for p := range procs {
			waiting(t, q, p, 0, 0)
			lacks(t, q, p, p)
		}
		put(t, q, procs-1, 5)
		waiting(t, q, procs-1, 1, 0)
		for p := range procs - 1 {
			waiting(t, q, p, 0, 0)
		}
		gets(t, q, procs-1, 0, 5)
	}
}

// What is put last is taken first; what it sends behind the queue is taken in order.
func TestPutMakesTheNextOne(t *testing.T) {
	for n := 1; n <= full+1; n++ {
		q := made(t, 1)
		put(t, q, 0, count(10, n)...)
		waiting(t, q, 0, n, 0)
		gets(t, q, 0, 0, 10+n-1)
		gets(t, q, 0, 0, count(10, n-1)...)
		waiting(t, q, 0, 0, 0)
		lacks(t, q, 0, 0)
	}
}

// One more than QueueCap: the first half of the queue, and what was the next one, go behind the queue for all, behind what is there already.
func TestPutIntoAFullQueue(t *testing.T) {
	for _, procs := range []int{1, 2, api.MaxProcs} {
		q := made(t, procs)
		p := procs - 1
		last(t, q, 900, 901)
		put(t, q, p, count(10, full+1)...)
		waiting(t, q, p, full+1, 2)
		put(t, q, p, 500)
		waiting(t, q, p, full-half+1, 2+half+1)
		gets(t, q, p, 0, 500)
		gets(t, q, p, 0, count(10+half, full-half)...)
		gets(t, q, p, 0, 900, 901)
		gets(t, q, p, 0, count(10, half)...)
		gets(t, q, p, 0, 10+full)
		lacks(t, q, p, 0)
	}
}

// It overflows again and again, wherever in the array the ring's first number stands.
func TestPutIntoFullRingsThatHaveGoneRound(t *testing.T) {
	for turns := range 2*full + 1 {
		q := made(t, 1)
		goRound(t, q, 0, turns)
		put(t, q, 0, count(100, full+1)...)
		put(t, q, 0, count(200, half+1)...)
		waiting(t, q, 0, full+1, half+1)
		put(t, q, 0, 300)
		waiting(t, q, 0, half+1, 2*half+2)
		gets(t, q, 0, 0, 300)
		gets(t, q, 0, 0, count(200, half)...)
		gets(t, q, 0, 0, count(100, half)...)
		gets(t, q, 0, 0, 100+full)
		gets(t, q, 0, 0, count(100+half, half)...)
		gets(t, q, 0, 0, 200+half)
		lacks(t, q, 0, 0)
	}
}

// A queue of every length at every place in the array gives its numbers in order.
func TestRingsGoRound(t *testing.T) {
	for turns := range 2*full + 1 {
		for n := range full + 1 {
			q := made(t, 1)
			goRound(t, q, 0, turns)
			put(t, q, 0, count(50, n+1)...)
			waiting(t, q, 0, n+1, 0)
			gets(t, q, 0, 0, 50+n)
			gets(t, q, 0, 0, count(50, n)...)
			lacks(t, q, 0, 0)
		}
	}
}

// goRound lays so many numbers behind a processor's queue and takes each of them again.
func goRound(t testing.TB, q *queue.Queues, p, turns int) {
	t.Helper()
	for range turns {
		put(t, q, p, 1, 2)
		gets(t, q, p, 0, 2, 1)
	}
}

func TestLast(t *testing.T) {
	q := made(t, 2)
	last(t, q, count(0, 1000)...)
	waiting(t, q, 0, 0, 1000)
	waiting(t, q, 1, 0, 1000)
	for i := range 500 {
		gets(t, q, i%2, 0, i)
	}
	last(t, q, count(1000, 1000)...)
	gets(t, q, 1, 0, count(500, 1500)...)
	waiting(t, q, 0, 0, 0)
	lacks(t, q, 0, 0)
}

// The next one, the queue, the queue for all, and what is stolen, in this order.
func TestGetInItsOrder(t *testing.T) {
	q := made(t, 3)
	put(t, q, 1, 70)
	put(t, q, 2, 80, 81)
	last(t, q, 50, 51)
	put(t, q, 0, 1, 2, 3)
	gets(t, q, 0, 1, 3, 1, 2)
	waiting(t, q, 0, 0, 2)
	gets(t, q, 0, 1, 50, 51)
	gets(t, q, 0, 1, 70)
	gets(t, q, 0, 1, 80, 81)
	lacks(t, q, 0, 1)
	put(t, q, 0, 4)
	last(t, q, 52)
	gets(t, q, 0, 0, 4, 52)
	lacks(t, q, 0, 0)
}

// Numbers may be the same, and any that is not below 0.
func TestNumbers(t *testing.T) {
	for _, g := range []int{0, 1, math.MaxInt - 1, math.MaxInt} {
		q := made(t, 2)
		put(t, q, 0, g, g, 0)
		last(t, q, g)
		waiting(t, q, 0, 3, 1)
		gets(t, q, 0, 0, 0, g, g, g)
		lacks(t, q, 0, 0)
		put(t, q, 0, g)
		gets(t, q, 1, 0, g)
		put(t, q, 0, count(0, full+1)...)
		put(t, q, 0, g)
		gets(t, q, 0, 0, g)
		gets(t, q, 0, 0, count(half, full-half)...)
		gets(t, q, 0, 0, count(0, half)...)
		gets(t, q, 0, 0, full)
		lacks(t, q, 0, 0)
	}
}

// modulo is start modulo n, counted by hand: n is added or taken away as one does it with small numbers.
func modulo(start, n int) int {
	if start >= 0 {
		return start % n
	}
	// -1 stands for n - 1, -2 for n - 2 .. -n for 0; start + 1 is not too small to be turned.
	return n - 1 - (-(start + 1))%n
}

func TestModulo(t *testing.T) {
	for _, c := range [][3]int{{-1, 8, 7}, {-8, 8, 0}, {-9, 8, 7}, {-1, 1, 0}, {7, 3, 1}, {math.MinInt, 8, 0}, {math.MinInt, 3, 1}, {math.MinInt, 7, 6}, {math.MaxInt, 8, 7}, {math.MaxInt, 7, 0}} {
		if got := modulo(c[0], c[1]); got != c[2] {
			t.Errorf("%d modulo %d: %d, want %d", c[0], c[1], got, c[2])
		}
	}
}

// Each of the others has one number, so it is told by what is stolen in which order the processors are gone through.
func TestStealingBeginsAtStart(t *testing.T) {
	for procs := 1; procs <= api.MaxProcs; procs++ {
		for p := range procs {
			for _, start := range numbers() {
				q := made(t, procs)
				var order []int
				first := modulo(start, procs)
				for i := range procs {
					if at := (first + i) % procs; at != p {
						put(t, q, at, 100+at)
						order = append(order, 100+at)
					}
				}
				gets(t, q, p, start, order...)
				lacks(t, q, p, start)
				if t.Failed() {
					t.Fatalf("%d processors, start %d", procs, start)
				}
			}
		}
	}
}

// From the first that has any, whoever has more: one whose queue is empty and whose next one there is, has one.
func TestStealingFromTheFirstThatHasAny(t *testing.T) {
	for start := range 4 {
		for has := range 1 << 4 {
			q := made(t, 4)
			for at := range 4 {
				if has>>at&1 == 1 && at != 2 {
					put(t, q, at, count(100*at+10, 1+at)...)
				}
			}
			first := -1
			for i := 3; i >= 0; i-- {
				if at := (start + i) % 4; has>>at&1 == 1 && at != 2 {
					first = at
				}
			}
			if first < 0 {
				lacks(t, q, 2, start)
				continue
			}
			gets(t, q, 2, start, 100*first+10)
			for at := range 4 {
				if has>>at&1 == 1 && at != 2 && at != first {
					waiting(t, q, at, 1+at, 0)
				}
			}
		}
	}
}

// Of a queue of n the first (n + 1) / 2, whatever the place in the array of either ring.
func TestStealingTakesTheFirstHalf(t *testing.T) {
	for n := 1; n <= full; n++ {
		for turns := range full + 1 {
			for thiefTurns := range full + 1 {
				q := made(t, 2)
				goRound(t, q, 0, turns)
				goRound(t, q, 1, thiefTurns)
				put(t, q, 0, count(10, n+1)...)
				taken := (n + 1) / 2
				gets(t, q, 1, 0, 10)
				waiting(t, q, 1, taken-1, 0)
				waiting(t, q, 0, n-taken+1, 0)
				gets(t, q, 1, 0, count(10, taken)[1:]...)
				gets(t, q, 0, 0, 10+n)
				gets(t, q, 0, 0, count(10+taken, n-taken)...)
				lacks(t, q, 0, 0)
				lacks(t, q, 1, 0)
			}
		}
	}
}

func TestStealingByHand(t *testing.T) {
	for _, c := range []struct{ n, thief, victim int }{{1, 0, 1}, {2, 0, 2}, {7, 3, 4}, {8, 3, 5}} {
		q := made(t, api.MaxProcs)
		put(t, q, 3, count(0, c.n+1)...)
		gets(t, q, 7, -2, 0)
		waiting(t, q, 7, c.thief, 0)
		waiting(t, q, 3, c.victim, 0)
	}
}

// Of a processor with an empty queue its next one is stolen; it is left with none.
func TestStealingTheNextOne(t *testing.T) {
	for _, procs := range []int{2, api.MaxProcs} {
		q := made(t, procs)
		put(t, q, 1, 6)
		gets(t, q, 0, 0, 6)
		waiting(t, q, 0, 0, 0)
		waiting(t, q, 1, 0, 0)
		put(t, q, 1, 7)
		waiting(t, q, 1, 1, 0)
		gets(t, q, 1, 0, 7)
		lacks(t, q, 1, 0)
	}
}

// What one processor does to its own doesn't touch another's, nor does another's beginning at itself.
func TestOneProcessorStealsNothing(t *testing.T) {
	for _, start := range numbers() {
		q := made(t, 1)
		lacks(t, q, 0, start)
		put(t, q, 0, 1, 2)
		gets(t, q, 0, start, 2, 1)
		lacks(t, q, 0, start)
	}
}

func TestWaitingOfEach(t *testing.T) {
	q := made(t, api.MaxProcs)
	last(t, q, 1, 2, 3)
	for p := range api.MaxProcs {
		put(t, q, p, count(0, p)...)
	}
	for p := range api.MaxProcs {
		waiting(t, q, p, p, 3)
	}
}

// A refused call, or one of a processor that there isn't, leaves all as it was.
func TestWrongInput(t *testing.T) {
	for _, procs := range []int{1, 2, api.MaxProcs} {
		q := made(t, procs)
		put(t, q, 0, count(10, full+1)...)
		last(t, q, 90)
		for _, x := range numbers() {
			if x < 0 || x >= procs {
				want(t, "Put of no processor", q.Put(x, 1), api.ErrArg)
				want(t, "Put of no processor", q.Put(x, -1), api.ErrArg)
				waiting(t, q, x, 0, 0)
				for p := range procs {
					lacks(t, q, x, p)
				}
			}
			if x < 0 {
				want(t, "Put of a number below 0", q.Put(0, x), api.ErrArg)
				want(t, "Last of a number below 0", q.Last(x), api.ErrArg)
			}
		}
		waiting(t, q, 0, full+1, 1)
		gets(t, q, 0, 0, 10+full)
		gets(t, q, 0, 0, count(10, full)...)
		gets(t, q, 0, 0, 90)
		lacks(t, q, 0, 0)
	}
}

func TestNilQueues(t *testing.T) {
	var q *queue.Queues
	for _, x := range numbers() {
		for _, y := range numbers() {
			want(t, "Put", q.Put(x, y), api.ErrState)
			lacks(t, q, x, y)
		}
		want(t, "Last", q.Last(x), api.ErrState)
		waiting(t, q, x, 0, 0)
	}
}

// Queues that are told the same answer the same, though others were told much between.
func TestAnswersHangOnWhatWasTold(t *testing.T) {
	first := walk(t)
	other := made(t, 2)
	put(t, other, 0, 4, 5)
	if second := walk(t); second != first {
		t.Errorf("first %s, and then %s", first, second)
	}
	gets(t, other, 0, 0, 5, 4)
}

// walk is what queues answer to some calls.
func walk(t *testing.T) string {
	q := made(t, 3)
	told := ""
	for i := range 60 {
		e := q.Put(i%4-1, i)
		f := q.Last(i - 3)
		g, found := q.Get(i%3, i)
		own, all := q.Waiting(i % 4)
		told += fmt.Sprint(" ", e, f, g, found, own, all)
	}
	return told
}

// The model is told the same by hand, by each short row of calls and by a long walk.
func TestModelByHand(t *testing.T) {
	p := newPair(t, 2)
	for range 12 {
		p.put(0)
	}
	for range 3 {
		p.get(1, -1)
	}
	p.last()
	for range 14 {
		p.get(0, 5)
	}
}

func TestEachShortRowOfCalls(t *testing.T) {
	const calls, length = 6, 6
	rows := 1
	for range length {
		rows *= calls
	}
	for row := range rows {
		p := newPair(t, 2)
		for range length {
			p.act(row%calls, row, row/calls)
			row /= calls
		}
		p.drain()
		if t.Failed() {
			t.FailNow()
		}
	}
}

// The walk is longer on putting, and then on taking, so that queues are full and empty many times.
func TestLongWalk(t *testing.T) {
	seed := uint64(10)
	next := func(n int) int {
		seed = seed*6364136223846793005 + 1442695040888963407
		return int(seed >> 33 % uint64(n))
	}
	for procs := 1; procs <= api.MaxProcs; procs++ {
		p := newPair(t, procs)
		for i := range 12000 {
			call := next(6)
			if putting := i/200%2 == 0; next(3) == 0 && putting {
				call = 0
			} else if next(2) == 0 && !putting {
				call = 4
			}
			p.act(call, next(procs+2)-1, next(40)-20)
			if t.Failed() {
				t.FailNow()
			}
		}
		p.drain()
	}
}

// A call that panics fails the test by itself.
func FuzzCalls(f *testing.F) {
	for i, x := range numbers() {
		f.Add(i%9, x, x, []byte{byte(i), 1, 2, 3})
		f.Add(8, i, x, []byte("aaaaaaaaaaaaaabbbbbbbb"))
	}
	f.Fuzz(func(t *testing.T, procs, x, y int, calls []byte) {
		p := newPair(t, modulo(procs, api.MaxProcs)+1)
		for i, c := range calls[:min(len(calls), 200)] {
			p.act(int(c)%6, x+i, y-i)
			p.act(int(c)/6%6, i%9, y)
		}
		p.q.Put(x, y)
		p.q.Get(y, x)
		p.q.Waiting(y)
	})
}
