package timer_test

import (
	"fmt"
	"math"
	"slices"
	"testing"

	"treadle/api"
	"treadle/timer"
)

// numbers are an int's edges, and those of the processors.
func numbers() []int {
	return []int{
		math.MinInt, math.MinInt + 1, -api.MaxProcs - 1, -api.MaxProcs, -2, -1,
		0, 1, 2, 3, 7, 8, 9, 16, api.MaxTimers, math.MaxInt - 1, math.MaxInt,
	}
}

// times are those at the ends, and some between.
func times() []uint64 {
	return []uint64{0, 1, 2, 5, api.MaxTicks - 1, api.MaxTicks, api.MaxTicks + 1, 1<<63 - 1, 1 << 63, 1<<63 + 1, math.MaxUint64 - 1, math.MaxUint64}
}

// made are timers of so many processors.
func made(t testing.TB, procs int) *timer.Timers {
	t.Helper()
	x, e := timer.New(procs)
	if x == nil || e != api.OK {
		t.Fatalf("New(%d): %v, %d", procs, x, e)
	}
	return x
}

// want fails the test if a call's error is another one.
func want(t testing.TB, call string, got, e api.Errno) {
	t.Helper()
	if got != e {
		t.Errorf("%s: %d, want %d", call, got, e)
	}
}

// add adds timers of one time.
func add(t testing.TB, x *timer.Timers, p int, when uint64, ids ...int) {
	t.Helper()
	for _, id := range ids {
		want(t, fmt.Sprintf("Add(%d, %d, %d)", p, when, id), x.Add(p, when, id), api.OK)
	}
}

// due fails the test if others come due.
func due(t testing.TB, x *timer.Timers, p int, now uint64, ids ...int) {
	t.Helper()
	if got := x.Due(p, now); !slices.Equal(got, ids) {
		t.Errorf("Due(%d, %d): %v, want %v", p, now, got, ids)
	}
}

// next fails the test if the time of the first one is another.
func next(t testing.TB, x *timer.Timers, p int, when uint64) {
	t.Helper()
	if got, found := x.Next(p); got != when || !found {
		t.Errorf("Next(%d): %d, %v, want %d", p, got, found, when)
	}
}

// empty fails the test if a processor has a timer.
func empty(t testing.TB, x *timer.Timers, p int) {
	t.Helper()
	if got, found := x.Next(p); got != 0 || found {
		t.Errorf("Next(%d): %d, %v, want none", p, got, found)
	}
}

// count fails the test if another number of timers wait.
func count(t testing.TB, x *timer.Timers, n int) {
	t.Helper()
	if got := x.Count(); got != n {
		t.Errorf("Count: %d, want %d", got, n)
	}
}

// move moves a processor's timers to another one.
func move(t testing.TB, x *timer.Timers, from, to int) {
	t.Helper()
	want(t, fmt.Sprintf("Move(%d, %d)", from, to), x.Move(from, to), api.OK)
}

func TestExample(t *testing.T) {
	x := made(t, 2)
	add(t, x, 0, 5, 1)
	add(t, x, 0, 3, 2)
	add(t, x, 0, 5, 3)
	next(t, x, 0, 3)
	due(t, x, 0, 4, 2)
	move(t, x, 0, 1)
	due(t, x, 1, 9, 1, 3)
}

func TestNew(t *testing.T) {
	for _, procs := range numbers() {
		x, e := timer.New(procs)
		if procs < 1 || procs > api.MaxProcs {
			if x != nil || e != api.ErrArg {
				t.Errorf("New(%d): %v, %d", procs, x, e)
			}
			continue
		}
		if x == nil || e != api.OK {
			t.Fatalf("New(%d): %v, %d", procs, x, e)
		}
		count(t, x, 0)
		for p := range procs {
			empty(t, x, p)
			due(t, x, p, math.MaxUint64)
		}
		add(t, x, procs-1, 4, 5)
		next(t, x, procs-1, 4)
		for p := range procs - 1 {
			empty(t, x, p)
		}
	}
}

func TestOfOneTimeInTheOrderOfAdding(t *testing.T) {
	for _, when := range times() {
		x := made(t, 1)
		ids := []int{5, 3, 9, 0, -4, 3, math.MaxInt, math.MinInt, 3, 1}
		add(t, x, 0, when, ids...)
		next(t, x, 0, when)
		due(t, x, 0, when, ids...)
		empty(t, x, 0)
	}
}

func TestByTheirTimes(t *testing.T) {
	list := times()
	for _, order := range [][]int{{0, 1, 2, 3, 4, 5, 6, 7, 8, 9, 10, 11}, {11, 10, 9, 8, 7, 6, 5, 4, 3, 2, 1, 0}, {5, 0, 11, 3, 8, 1, 10, 2, 9, 4, 7, 6}} {
		x := made(t, 1)
		for _, i := range order {
			add(t, x, 0, list[i], i)
		}
		count(t, x, len(list))
		for i, when := range list {
			next(t, x, 0, when)
			if when > 0 && (i == 0 || list[i-1] < when-1) {
				due(t, x, 0, when-1)
			}
			due(t, x, 0, when, i)
			count(t, x, len(list)-i-1)
		}
		empty(t, x, 0)
	}
}

// What is due is at most now: at a time, one ahead of it and behind it.
func TestDueAtATime(t *testing.T) {
	for _, when := range times() {
		x := made(t, 2)
		add(t, x, 1, when, 7, 8)
		due(t, x, 0, when)
		if when > 0 {
			due(t, x, 1, when-1)
			due(t, x, 1, 0)
		}
		next(t, x, 1, when)
		due(t, x, 1, when, 7, 8)
		due(t, x, 1, when)
		empty(t, x, 1)
		if when < math.MaxUint64 {
			add(t, x, 1, when, 9)
			due(t, x, 1, when+1, 9)
		}
		add(t, x, 1, when, 10)
		due(t, x, 1, math.MaxUint64, 10)
		count(t, x, 0)
	}
}

// Some come due, and the others wait on, with those that are added behind that.
func TestDueTakesWhatIsDue(t *testing.T) {
	x := made(t, 1)
	add(t, x, 0, 4, 40)
	add(t, x, 0, 2, 20, 21)
	add(t, x, 0, 6, 60)
	add(t, x, 0, 3, 30)
	due(t, x, 0, 3, 20, 21, 30)
	count(t, x, 2)
	add(t, x, 0, 1, 10)
	add(t, x, 0, 4, 41)
	add(t, x, 0, 5, 50)
	next(t, x, 0, 1)
	due(t, x, 0, 5, 10, 40, 41, 50)
	next(t, x, 0, 6)
	count(t, x, 1)
	due(t, x, 0, 6, 60)
	count(t, x, 0)
}

// A list is the caller's: what it does with it, in the spare room too, is told by no other call.
func TestListsAreNew(t *testing.T) {
	x := made(t, 1)
	add(t, x, 0, 1, 1, 2, 3)
	add(t, x, 0, 2, 4, 5, 6)
	first := x.Due(0, 1)
	spoil(first)
	add(t, x, 0, 2, 7)
	second := x.Due(0, 2)
	if !slices.Equal(second, []int{4, 5, 6, 7}) {
		t.Errorf("behind a list that is spoilt: %v", second)
	}
	spoil(first)
	if !slices.Equal(second, []int{4, 5, 6, 7}) {
		t.Errorf("two lists share memory: %v", second)
	}
	add(t, x, 0, 3, 8)
	spoil(second)
	due(t, x, 0, 3, 8)
}

// spoil writes over a list and its spare room.
func spoil(list []int) {
	list = list[:cap(list)]
	for i := range list {
		list[i] = -99
	}
}

func TestMove(t *testing.T) {
	x := made(t, 3)
	add(t, x, 0, 5, 1)
	add(t, x, 1, 3, 2)
	add(t, x, 1, 7, 3)
	add(t, x, 2, 1, 4)
	move(t, x, 1, 0)
	empty(t, x, 1)
	next(t, x, 0, 3)
	next(t, x, 2, 1)
	count(t, x, 4)
	add(t, x, 1, 9, 5)
	due(t, x, 0, 9, 2, 1, 3)
	due(t, x, 1, 9, 5)
	due(t, x, 2, 9, 4)
}

// Of one time on both sides it is the order of adding that counts, whichever of the two is moved.
func TestMoveOfEqualTimes(t *testing.T) {
	for _, c := range [][2]int{{0, 1}, {1, 0}} {
		x := made(t, 2)
		for i := range 20 {
			add(t, x, i/3%2, uint64(i%2), i)
		}
		move(t, x, c[0], c[1])
		empty(t, x, c[0])
		add(t, x, c[1], 0, 20)
		add(t, x, c[1], 1, 21)
		due(t, x, c[1], 0, 0, 2, 4, 6, 8, 10, 12, 14, 16, 18, 20)
		due(t, x, c[1], 1, 1, 3, 5, 7, 9, 11, 13, 15, 17, 19, 21)
		count(t, x, 0)
	}
}

// Those that are moved to and fro are still in the order in which they were added.
func TestMoveToAndFro(t *testing.T) {
	x := made(t, 3)
	add(t, x, 0, 2, 1)
	add(t, x, 1, 2, 2)
	add(t, x, 2, 2, 3)
	add(t, x, 0, 2, 4)
	move(t, x, 0, 1)
	move(t, x, 1, 2)
	move(t, x, 2, 0)
	add(t, x, 1, 2, 5)
	move(t, x, 0, 1)
	due(t, x, 1, 2, 1, 2, 3, 4, 5)
	count(t, x, 0)
}

func TestMoveToItself(t *testing.T) {
	x := made(t, 2)
	move(t, x, 1, 1)
	empty(t, x, 1)
	add(t, x, 1, 2, 1, 2)
	add(t, x, 1, 1, 3)
	add(t, x, 0, 1, 4)
	move(t, x, 1, 1)
	count(t, x, 4)
	next(t, x, 1, 1)
	add(t, x, 1, 2, 5)
	due(t, x, 1, 2, 3, 1, 2, 5)
	due(t, x, 0, 2, 4)
}

func TestMoveOfNone(t *testing.T) {
	x := made(t, 2)
	move(t, x, 0, 1)
	empty(t, x, 0)
	empty(t, x, 1)
	add(t, x, 1, 4, 1, 2)
	move(t, x, 0, 1)
	next(t, x, 1, 4)
	move(t, x, 1, 0)
	move(t, x, 1, 0)
	due(t, x, 0, 4, 1, 2)
	count(t, x, 0)
}

// A full room is full whoever has them; a Move makes no room, a Due does.
func TestMaxTimers(t *testing.T) {
	for _, procs := range []int{1, 2, api.MaxProcs} {
		x := made(t, procs)
		for i := range api.MaxTimers {
			add(t, x, i%procs, uint64(i/procs), i)
			count(t, x, i+1)
		}
		for p := range procs {
			want(t, "one more", x.Add(p, 0, 7), api.ErrFull)
		}
		want(t, "no such processor", x.Add(procs, 0, 7), api.ErrArg)
		move(t, x, 0, procs-1)
		want(t, "one more", x.Add(0, 0, 7), api.ErrFull)
		count(t, x, api.MaxTimers)
		if procs == 1 {
			due(t, x, 0, 0, 0)
		} else {
			due(t, x, procs-1, 0, 0, procs-1)
			add(t, x, 0, 1, -1)
		}
		add(t, x, procs-1, 0, -2)
		want(t, "one more", x.Add(0, 0, 7), api.ErrFull)
		count(t, x, api.MaxTimers)
		due(t, x, procs-1, 0, -2)
	}
}

func TestMovesOfMany(t *testing.T) {
	x := made(t, 2)
	var rising []int
	for i := range api.MaxTimers {
		add(t, x, i%2, 6, i)
		rising = append(rising, i)
	}
	move(t, x, 0, 1)
	count(t, x, api.MaxTimers)
	due(t, x, 1, 5)
	due(t, x, 1, 6, rising...)
	count(t, x, 0)
}

// A refused call, or one of a processor that there isn't, leaves all as it was.
func TestNoSuchProcessor(t *testing.T) {
	for _, procs := range []int{1, 2, api.MaxProcs} {
		x := made(t, procs)
		for p := range procs {
			add(t, x, p, 3, p)
		}
		for _, p := range append(numbers(), procs) {
			if p >= 0 && p < procs {
				continue
			}
			want(t, "Add", x.Add(p, 0, 1), api.ErrArg)
			want(t, "Move from", x.Move(p, 0), api.ErrArg)
			want(t, "Move to", x.Move(0, p), api.ErrArg)
			want(t, "Move from and to", x.Move(p, p), api.ErrArg)
			due(t, x, p, math.MaxUint64)
			empty(t, x, p)
		}
		count(t, x, procs)
		for p := range procs {
			next(t, x, p, 3)
			due(t, x, p, 3, p)
		}
	}
}

func TestNilTimers(t *testing.T) {
	var x *timer.Timers
	for _, p := range numbers() {
		for _, y := range numbers() {
			want(t, "Add", x.Add(p, uint64(y), y), api.ErrState)
			want(t, "Move", x.Move(p, y), api.ErrState)
			due(t, x, p, uint64(y))
		}
		empty(t, x, p)
	}
	count(t, x, 0)
}

// Timers that are told the same answer the same, though others were told much between.
func TestAnswersHangOnWhatWasTold(t *testing.T) {
	first := walk(t)
	other := made(t, 2)
	add(t, other, 0, 4, 5)
	if second := walk(t); second != first {
		t.Errorf("first %s, and then %s", first, second)
	}
	due(t, other, 0, 4, 5)
}

// walk is what timers answer to some calls.
func walk(t *testing.T) string {
	x := made(t, 3)
	told := ""
	for i := range 60 {
		e := x.Add(i%4-1, uint64(i*7%11), i)
		f := x.Move(i%5-1, i%3)
		when, found := x.Next(i % 3)
		told += fmt.Sprint(" ", e, f, when, found, x.Due(i%4, uint64(i%9)), x.Count())
	}
	return told
}

func TestEachShortRowOfCalls(t *testing.T) {
	const calls, length = 7, 6
	rows := 1
	for range length {
		rows *= calls
	}
	for row := range rows {
		p := newPair(t, 2)
		for range length {
			p.short(row % calls)
			row /= calls
		}
		p.drain()
		if t.Failed() {
			t.FailNow()
		}
	}
}

// The walk begins with nearly as many timers as there may be, so that it goes over full rooms and over empty ones.
func TestLongWalk(t *testing.T) {
	seed := uint64(11)
	random := func(n int) int {
		seed = seed*6364136223846793005 + 1442695040888963407
		return int(seed >> 33 % uint64(n))
	}
	for procs := 1; procs <= api.MaxProcs; procs++ {
		p := newPair(t, procs)
		for i := range api.MaxTimers - 10 {
			p.add(i%procs, uint64(random(40)))
		}
		for i := range 3000 {
			switch call := random(40); {
			case call < 2:
				p.move(random(procs+2)-1, random(procs+2)-1)
			case call < 20 && i > 60:
				p.due(random(procs+2)-1, uint64(random(42)))
			default:
				p.add(random(procs+2)-1, uint64(random(40)))
			}
			if t.Failed() {
				t.FailNow()
			}
		}
		p.drain()
	}
}

// A call that panics fails the test by itself.
func FuzzCalls(f *testing.F) {
	for i, x := range numbers() {
		f.Add(byte(i), x, uint64(x), []byte{byte(i), 1, 2, 3})
		f.Add(byte(8), i, uint64(i), []byte("abcdefgabcdefggggaaafffddd"))
	}
	f.Fuzz(func(t *testing.T, procs byte, x int, when uint64, calls []byte) {
		p := newPair(t, int(procs)%api.MaxProcs+1)
		for _, c := range calls[:min(len(calls), 200)] {
			p.short(int(c) % 7)
			p.add(int(c)/7%9, when+uint64(c)%3)
		}
		p.add(x, when)
		p.due(x, when)
		p.move(x, int(procs))
		p.move(int(procs), x)
		p.drain()
	})
}
