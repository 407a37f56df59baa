package heap_test

import (
	"iter"
	"slices"
	"testing"

	"treadle/api"
	"treadle/heap"
)

func TestMoreKeepsWhatItGives(t *testing.T) {
	h := made(t, plenty())
	row, other, gone := chain(t, h, 5), chain(t, h, 5), chain(t, h, 5)
	root(t, h, 0, other[4])
	hand := []int{0, row[0], 0, other[2], row[0], 0}
	h.More(list(&hand))
	for range 3 {
		cycled(t, h)
		has(t, h, true, row...)
		has(t, h, true, other[2:]...)
		has(t, h, false, other[:2]...)
		has(t, h, false, gone...)
	}
	// The same function gives something else now.
	hand = []int{row[3]}
	cycled(t, h)
	has(t, h, true, row[3:]...)
	has(t, h, false, row[:3]...)
	has(t, h, false, other[:4]...)
	has(t, h, true, other[4])
}

func TestALaterFunctionTakesThePlaceOfMoresEarlierOne(t *testing.T) {
	h := made(t, plenty())
	a, b := chain(t, h, 3), chain(t, h, 3)
	h.More(gives(a[0]))
	h.More(gives(b[0]))
	cycled(t, h)
	has(t, h, false, a...)
	has(t, h, true, b...)
	h.More(nil)
	cycled(t, h)
	has(t, h, false, b...)
	cycled(t, h)
	objects(t, h, 0, 0)
}

func TestMoreIsAskedWhenACycleBegins(t *testing.T) {
	h := made(t, plenty())
	row := chain(t, h, 5)
	asked := 0
	h.More(func(yield func(int) bool) {
		asked++
		yield(row[0])
	})
	for cycle := range 3 {
		if asked != cycle {
			t.Errorf("ahead of the cycle %d More's function was asked %d times", cycle, asked)
		}
		start(t, h)
		if asked != cycle+1 {
			t.Errorf("when the cycle %d begins, More's function was asked %d times", cycle, asked)
		}
		finish(t, h)
	}
	h.Full()
	if asked != 4 {
		t.Errorf("behind Full More's function was asked %d times", asked)
	}
}

func TestMoreOfACycleThatBeginsByItself(t *testing.T) {
	h := made(t, api.Config{Procs: 1, Pages: api.MaxPages, Gogc: 100})
	var hand []int
	h.More(list(&hand))
	for n := range 3000 {
		hand = append(hand, alloc(t, h, plain(n%20+1)))
		put(t, h, hand[n], 0, uint64(n))
	}
	has(t, h, true, hand...)
	for n, p := range hand {
		get(t, h, p, 0, uint64(n))
	}
	if h.Stats().Cycles < 2 {
		t.Error("there were too few cycles")
	}
}

func TestRefsKeepsWhatItGives(t *testing.T) {
	h := made(t, plenty())
	p, q := alloc(t, h, plain(1)), alloc(t, h, shape("pw"))
	row, other, behind := chain(t, h, 4), chain(t, h, 4), chain(t, h, 4)
	root(t, h, 0, p)
	hand := []int{0, row[0], q, 0, row[2]}
	h.Refs(p, list(&hand))
	h.Refs(q, gives(behind[0], 0))
	put(t, h, q, 0, uint64(other[0]))
	for range 3 {
		cycled(t, h)
		for _, list := range [][]int{row, other, behind, {p, q}} {
			has(t, h, true, list...)
		}
	}
	hand = []int{row[3]}
	cycled(t, h)
	has(t, h, true, p, row[3])
	objects(t, h, 2, 3)
}

func TestRefsOfWhatCantBeReachedKeepsNothing(t *testing.T) {
	h := made(t, plenty())
	a, b := alloc(t, h, plain(1)), alloc(t, h, plain(1))
	h.Refs(a, gives(b))
	h.Refs(b, gives(a))
	cycled(t, h)
	has(t, h, false, a, b)
}

func TestALaterFunctionTakesThePlaceOfAnObjectsEarlierOne(t *testing.T) {
	h := made(t, plenty())
	p, other := alloc(t, h, plain(1)), alloc(t, h, plain(1))
	a, b, c := chain(t, h, 3), chain(t, h, 3), chain(t, h, 3)
	root(t, h, 0, p)
	root(t, h, 1, other)
	h.Refs(p, gives(a[0]))
	h.Refs(other, gives(c[0]))
	h.Refs(p, gives(b[0]))
	cycled(t, h)
	has(t, h, false, a...)
	has(t, h, true, b...)
	has(t, h, true, c...)
	h.Refs(p, nil)
	cycled(t, h)
	has(t, h, false, b...)
	has(t, h, true, c...)
}

func TestRefsOfNoObject(t *testing.T) {
	h := made(t, plenty())
	gone, p := alloc(t, h, plain(1)), alloc(t, h, plain(1))
	root(t, h, 0, p)
	cycled(t, h)
	for _, n := range append(noPointers(), 0, gone, p+1) {
		h.Refs(n, func(func(int) bool) { t.Errorf("%d is no object, and its function was asked", n) })
	}
	cycled(t, h)
	// An object that lies where one lay has no function of that one's.
	h = made(t, plenty())
	p = alloc(t, h, plain(1))
	h.Refs(p, func(func(int) bool) { t.Error("the function of an object that was freed was asked") })
	h.Full()
	if q := alloc(t, h, plain(1)); q != p {
		t.Fatalf("%d lies elsewhere than %d", q, p)
	}
	root(t, h, 0, p)
	cycled(t, h)
}

func TestRefsIsAskedWhenTheObjectIsGoneThrough(t *testing.T) {
	h := made(t, plenty())
	row := chain(t, h, 6)
	root(t, h, 0, row[0])
	asked := make([]int, 6)
	for i, p := range row {
		h.Refs(p, func(func(int) bool) {
			asked[i]++
			if i > 0 && asked[i] > asked[i-1] {
				t.Errorf("%d was gone through ahead of what leads to it", i)
			}
		})
	}
	for cycle := range 3 {
		start(t, h)
		work(h, 3)
		if !slices.Equal(asked, []int{cycle + 1, cycle + 1, cycle + 1, cycle, cycle, cycle}) {
			t.Errorf("behind three pieces of the cycle %d %v were asked", cycle, asked)
		}
		finish(t, h)
	}
	if !slices.Equal(asked, []int{3, 3, 3, 3, 3, 3}) {
		t.Errorf("behind three cycles %v were asked", asked)
	}
}

// TestShadeKeepsWhatIsTakenAway: what a function gave no more, and is held by what was gone through already, or by no function.
func TestShadeKeepsWhatIsTakenAway(t *testing.T) {
	for pieces := range 10 {
		h := made(t, plenty())
		row := chain(t, h, 3)
		p, q := node(t, h, 0), node(t, h, 0)
		root(t, h, 0, p)
		root(t, h, 1, q)
		given := []int{row[0]}
		h.Refs(p, list(&given))
		var hand []int
		h.More(list(&hand))
		start(t, h)
		work(h, pieces)
		hand = append(hand, row[0])
		given = nil
		h.Shade(row[0])
		finish(t, h)
		has(t, h, true, row...)
		cycled(t, h)
		has(t, h, true, row...)
		// From More to an object.
		start(t, h)
		work(h, pieces)
		other := []int{row[0]}
		h.Refs(q, list(&other))
		h.Shade(row[0])
		hand = nil
		finish(t, h)
		has(t, h, true, row...)
		cycled(t, h)
		has(t, h, true, row...)
		other = nil
		cycled(t, h)
		has(t, h, false, row...)
	}
}

func TestWhatAnEarlierFunctionGaveIsKeptByTheCycleUnderWay(t *testing.T) {
	for pieces := range 12 {
		h := made(t, plenty())
		row, other := chain(t, h, 3), chain(t, h, 3)
		p := chain(t, h, 3)
		root(t, h, 0, p[0])
		h.Refs(p[2], gives(row[0]))
		h.More(gives(other[0]))
		start(t, h)
		work(h, pieces)
		h.Refs(p[2], nil)
		h.More(nil)
		finish(t, h)
		has(t, h, true, row...)
		has(t, h, true, other...)
		cycled(t, h)
		has(t, h, false, row...)
		has(t, h, false, other...)
	}
}

func TestFunctionsGiveWhatIsNoObject(t *testing.T) {
	h := made(t, plenty())
	p, q := alloc(t, h, plain(1)), alloc(t, h, plain(1))
	gone := alloc(t, h, plain(1))
	root(t, h, 0, p)
	odd := append(noPointers(), 0, q, gone+1)
	h.More(gives(odd...))
	h.Refs(p, gives(odd...))
	for range 3 {
		cycled(t, h)
		objects(t, h, 2, 2)
		has(t, h, true, p, q)
	}
	h.More(gives(gone))
	h.Refs(p, gives(gone, gone))
	cycled(t, h)
	objects(t, h, 1, 1)
}

// once is a function that gives these pointers and then ends, wherever it is left; it tells whether it was left early.
func once(left *int, pointers ...int) iter.Seq[int] {
	return func(yield func(int) bool) {
		for _, p := range pointers {
			if !yield(p) {
				*left++
				return
			}
		}
	}
}

func TestFunctionsThatAreLeftEarly(t *testing.T) {
	h := made(t, plenty())
	p := alloc(t, h, plain(1))
	row, other := chain(t, h, 5), chain(t, h, 5)
	root(t, h, 0, p)
	left := 0
	h.More(once(&left, 0, row[0], 12345, row[3]))
	h.Refs(p, once(&left, other[1], 0, other[0], other[4]))
	for range 3 {
		cycled(t, h)
		has(t, h, true, row...)
		has(t, h, true, other...)
	}
	if left > 0 {
		t.Errorf("the functions were left early %d times", left)
	}
	// Functions that end ahead of what else they could give, by themselves.
	short := func(pointers []int) iter.Seq[int] {
		return func(yield func(int) bool) {
			for i, p := range pointers {
				if i > 1 || !yield(p) {
					return
				}
			}
		}
	}
	h.More(short([]int{row[3], row[4], row[0]}))
	h.Refs(p, short([]int{0, other[2], other[0]}))
	cycled(t, h)
	has(t, h, true, row[3:]...)
	has(t, h, true, other[2:]...)
	objects(t, h, 1+2+3, 1+2*5)
	none := func(func(int) bool) {}
	h.More(none)
	h.Refs(p, none)
	cycled(t, h)
	objects(t, h, 1, 1)
}

func TestFunctionsThatThrow(t *testing.T) {
	h := made(t, plenty())
	p := alloc(t, h, plain(1))
	row, other := chain(t, h, 3), chain(t, h, 3)
	root(t, h, 0, p)
	throws := func(q int) iter.Seq[int] {
		return func(yield func(int) bool) {
			yield(q)
			panic("thrown")
		}
	}
	h.More(throws(row[0]))
	h.Refs(p, throws(other[0]))
	for range 3 {
		cycled(t, h)
		has(t, h, true, row...)
		has(t, h, true, other...)
	}
	h.Full()
	objects(t, h, 7, 13)
	start(t, h)
	work(h, 2)
	h.More(throws(row[1]))
	h.Refs(p, throws(other[1]))
	finish(t, h)
	cycled(t, h)
	has(t, h, true, row[1:]...)
	has(t, h, true, other[1:]...)
	objects(t, h, 5, 9)
}

// TestFunctionsThatCallTheHeap: they are asked in the midst of a cycle; whatever they call, it ends, and nothing is lost.
func TestFunctionsThatCallTheHeap(t *testing.T) {
	h := made(t, api.Config{Procs: 1, Pages: 40, Gogc: 0, Limit: 10})
	p := node(t, h, 0)
	root(t, h, 0, p)
	row := chain(t, h, 4)
	root(t, h, 1, row[0])
	var calls func(yield func(int) bool)
	calls = func(yield func(int) bool) {
		if h.Stats().Phase == off {
			t.Error("no cycle is under way when a function is asked")
		}
		want(t, "Start", h.Start(), api.ErrState)
		if h.Work() {
			t.Error("a function is asked, and Work goes on")
		}
		h.Full()
		h.Alloc(0, plain(100))
		h.Pages(100)
		h.Shade(row[2])
		h.More(calls)
		h.Refs(p, calls)
		h.Refs(row[1], calls)
		h.Scavenge(3)
		root(t, h, 2, row[3])
		put(t, h, p, 0, uint64(row[3]))
		yield(row[2])
	}
	h.More(calls)
	h.Refs(p, calls)
	for n := range 50 {
		h.Alloc(0, leading(n+1))
		if n%5 == 0 {
			h.Full()
		}
		h.Start()
		work(h, n%7)
		has(t, h, true, p)
		has(t, h, true, row...)
	}
	finish(t, h)
	h.More(nil)
	h.Refs(p, nil)
	h.Refs(row[1], nil)
	h.Full()
	objects(t, h, 5, 10)
}

// TestAFunctionThatRootsAnObject: one that is asked while a cycle sweeps, and roots what leads to others by a function, too.
func TestAFunctionThatRootsAnObject(t *testing.T) {
	h := made(t, plenty())
	held := alloc(t, h, plain(1))
	root(t, h, 0, held)
	row := chain(t, h, 3)
	p, q := node(t, h, row[0]), node(t, h, 0)
	behind := chain(t, h, 3)
	h.Refs(row[2], gives(behind[0]))
	h.Refs(q, gives(behind[1]))
	roots := func(i, p int) iter.Seq[int] {
		return func(yield func(int) bool) { root(t, h, i, p) }
	}
	start(t, h)
	until(t, h, sweeping)
	h.Refs(held, roots(1, p))
	h.More(roots(2, q))
	for range 2 {
		finish(t, h)
		has(t, h, true, row...)
		has(t, h, true, behind...)
		has(t, h, true, held, p, q)
		start(t, h)
	}
}

// TestFunctionsThatMakeObjects: what is made while a function is asked owes nothing, or else the cycle would go on without what the function gives.
func TestFunctionsThatMakeObjects(t *testing.T) {
	h := made(t, api.Config{Procs: 1, Pages: 200, Gogc: 0, Limit: 10})
	row := chain(t, h, 3)
	h.More(gives(row[0]))
	holder := alloc(t, h, plain(1))
	put(t, h, row[2], 0, uint64(holder))
	only := chain(t, h, 3)
	h.Refs(holder, gives(only[0]))
	makes := func(p int) iter.Seq[int] {
		return func(yield func(int) bool) {
			for range 5 {
				h.Alloc(0, plain(30))
			}
			yield(p)
		}
	}
	h.More(makes(row[0]))
	h.Refs(row[1], makes(holder))
	for n := range 20 {
		h.Full()
		h.Alloc(0, plain(n+1))
		h.Start()
		work(h, n)
		has(t, h, true, row...)
		has(t, h, true, holder)
		has(t, h, true, only...)
	}
}

func TestRootsAndMoreTogether(t *testing.T) {
	h := made(t, plenty())
	var hand []int
	h.More(list(&hand))
	for i := range heap.Roots {
		root(t, h, i, alloc(t, h, plain(i+1)))
	}
	for i := range 40 {
		hand = append(hand, alloc(t, h, plain(i+1)))
	}
	chain(t, h, 20)
	cycled(t, h)
	objects(t, h, 16+40, 16*17/2+40*41/2)
	hand = hand[:20]
	for i := range 8 {
		root(t, h, i, 0)
	}
	cycled(t, h)
	objects(t, h, 8+20, 16*17/2-8*9/2+20*21/2)
}
