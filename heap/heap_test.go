package heap_test

import (
	"fmt"
	"math"
	"testing"

	"treadle/api"
	"treadle/heap"
)

func TestExample(t *testing.T) {
	h := made(t, api.Config{Procs: 1, Pages: 4096, Gogc: 100})
	p := alloc(t, h, []bool{true, false})
	put(t, h, p, 1, 7)
	root(t, h, 0, p)
	q := alloc(t, h, []bool{false})
	put(t, h, p, 0, uint64(q))
	h.Full()
	has(t, h, true, q)
	put(t, h, p, 0, 0)
	h.Full()
	has(t, h, false, q)
	get(t, h, p, 1, 7)
	objects(t, h, 1, 2)
	want(t, "Put(p, 0, 12345)", h.Put(p, 0, 12345), api.ErrNone)
}

// wrong are numbers of things of which there are 1 to most, and that New doesn't take.
func wrong(most int) []int {
	return []int{math.MinInt, math.MinInt + 1, -most, -1, 0, most + 1, most + 2, 2 * most, math.MaxInt - 1, math.MaxInt}
}

func TestNewRefuses(t *testing.T) {
	refuses := func(procs, pages int) {
		t.Helper()
		if h, e := heap.New(api.Config{Procs: procs, Pages: pages, Gogc: 100}); h != nil || e != api.ErrArg {
			t.Errorf("New of %d processors and %d pages: %v, %d", procs, pages, h, e)
		}
	}
	for _, procs := range wrong(api.MaxProcs) {
		refuses(procs, 1)
		refuses(procs, api.MaxPages)
		for _, pages := range wrong(api.MaxPages) {
			refuses(procs, pages)
		}
	}
	for _, pages := range wrong(api.MaxPages) {
		refuses(1, pages)
		refuses(api.MaxProcs, pages)
	}
}

func TestNewTakesTheLeastAndTheGreatest(t *testing.T) {
	for _, procs := range []int{1, 2, api.MaxProcs - 1, api.MaxProcs} {
		for _, pages := range []int{1, 2, api.MaxPages - 1, api.MaxPages} {
			h := made(t, api.Config{Procs: procs, Pages: pages, Gogc: -1})
			refused(t, h, procs, plain(1), api.ErrArg)
			allocFor(t, h, procs-1, plain(1))
			h.Full()
			if base, e := h.Pages(pages); base != 0 || e != api.OK {
				t.Errorf("of %d pages Pages(%d): %d, %d", pages, pages, base, e)
			}
			if _, e := h.Pages(1); e != api.ErrFull {
				t.Errorf("of %d pages there is one more", pages)
			}
		}
	}
}

func TestANewHeapIsEmpty(t *testing.T) {
	goals := []struct {
		gogc  int
		limit uint64
		goal  uint64
	}{
		{100, 0, 256}, {0, 0, 256}, {1, 0, 256}, {math.MaxInt, 0, 256}, {-1, 0, noGoal}, {math.MinInt, 0, noGoal},
		{100, 1, 1}, {100, 255, 255}, {100, 256, 256}, {100, 257, 256}, {-1, 1000, 1000}, {-1, noGoal, noGoal},
	}
	for _, x := range goals {
		h := made(t, api.Config{Procs: 2, Pages: 10, Gogc: x.gogc, Limit: x.limit})
		stats(t, h, api.Stats{Goal: x.goal})
		has(t, h, false, 0, 1)
		if h.Work() {
			t.Error("a cycle is under way in a new heap")
		}
		if h.Memory() == nil {
			t.Error("there is no memory")
		}
	}
}

func TestAllocOfEachLength(t *testing.T) {
	lengths := []int{api.MaxWords - 1, api.MaxWords, 63, 64, 65, 127, 128, 129, 512}
	for n := 1; n <= 70; n++ {
		lengths = append(lengths, n)
	}
	for _, n := range lengths {
		h := made(t, plenty())
		for k, s := range [][]bool{plain(n), leading(n)} {
			p := alloc(t, h, s)
			objects(t, h, k+1, uint64((k+1)*n))
			getRefused(t, h, p, n, api.ErrArg)
			getRefused(t, h, p, -1, api.ErrArg)
		}
	}
}

func TestAllocRefuses(t *testing.T) {
	h := made(t, api.Config{Procs: 3, Pages: 100, Gogc: 0})
	root(t, h, 0, alloc(t, h, plain(api.MaxWords)))
	for _, proc := range []int{math.MinInt, -3, -1, 3, 4, api.MaxProcs, math.MaxInt} {
		refused(t, h, proc, plain(1), api.ErrArg)
		refused(t, h, proc, nil, api.ErrArg)
		refused(t, h, proc, plain(api.MaxWords+1), api.ErrArg)
	}
	for proc := range 3 {
		refused(t, h, proc, nil, api.ErrArg)
		refused(t, h, proc, []bool{}, api.ErrArg)
		refused(t, h, proc, leading(0), api.ErrArg)
		refused(t, h, proc, plain(api.MaxWords+1), api.ErrLong)
		refused(t, h, proc, leading(api.MaxWords+1), api.ErrLong)
		refused(t, h, proc, plain(2*api.MaxWords), api.ErrLong)
		allocFor(t, h, proc, plain(1))
	}
}

func TestARefusedAllocLeavesTheCycleAsItIs(t *testing.T) {
	h := made(t, plenty())
	root(t, h, 0, chain(t, h, 10)[0])
	chain(t, h, 10)
	start(t, h)
	for s := h.Stats(); s.Phase != off; s = h.Stats() {
		refused(t, h, 1, plain(1), api.ErrArg)
		refused(t, h, 0, nil, api.ErrArg)
		refused(t, h, 0, plain(api.MaxWords+1), api.ErrLong)
		h.Work()
	}
}

func TestPointersAndOtherWords(t *testing.T) {
	for _, text := range []string{"w", "p", "ww", "pp", "wp", "pw", "wpwpw", "pwpwp", "ppppppppww", "wwwwwwwwpp"} {
		h := made(t, plenty())
		q := alloc(t, h, shape(text))
		p := alloc(t, h, shape(text))
		for i, letter := range text {
			put(t, h, p, i, uint64(q))
			get(t, h, p, i, uint64(q))
			put(t, h, p, i, 0)
			get(t, h, p, i, 0)
			put(t, h, p, i, uint64(p))
			get(t, h, p, i, uint64(p))
			for _, w := range []uint64{1 << 40, 1<<63 - 1, 1 << 63, 1<<64 - 1} {
				if letter == 'w' {
					put(t, h, p, i, w)
					get(t, h, p, i, w)
					continue
				}
				want(t, "Put of what is no object", h.Put(p, i, w), api.ErrNone)
				get(t, h, p, i, uint64(p))
			}
		}
	}
}

func TestAPointersWordLeadsToNothingElse(t *testing.T) {
	h := made(t, plenty())
	p, q := alloc(t, h, leading(3)), alloc(t, h, plain(3))
	put(t, h, p, 1, uint64(q))
	for _, n := range append(noPointers(), p+1, p+2, q+1, q+2) {
		want(t, fmt.Sprintf("Put(p, 1, %d)", n), h.Put(p, 1, uint64(n)), api.ErrNone)
		get(t, h, p, 1, uint64(q))
	}
	root(t, h, 0, p)
	put(t, h, p, 1, 0)
	cycled(t, h)
	want(t, "Put of an object that was freed", h.Put(p, 1, uint64(q)), api.ErrNone)
	get(t, h, p, 1, 0)
}

func TestGetAndPutRefuse(t *testing.T) {
	h := made(t, plenty())
	p, gone := alloc(t, h, shape("wp")), alloc(t, h, shape("wp"))
	root(t, h, 0, p)
	put(t, h, p, 0, 5)
	cycled(t, h)
	for _, q := range append(noPointers(), 0, gone, p+1) {
		for _, i := range []int{math.MinInt, -1, 0, 1, 2, math.MaxInt} {
			getRefused(t, h, q, i, api.ErrNone)
			want(t, "Put of no object", h.Put(q, i, 0), api.ErrNone)
			want(t, "Put of no object, of no object", h.Put(q, i, 12345), api.ErrNone)
		}
	}
	for _, i := range []int{math.MinInt, math.MinInt + 1, -2, -1, 2, 3, api.PageWords, math.MaxInt} {
		getRefused(t, h, p, i, api.ErrArg)
		want(t, "Put of no such word", h.Put(p, i, 0), api.ErrArg)
		want(t, "Put of no such word, of no object", h.Put(p, i, 12345), api.ErrArg)
	}
	get(t, h, p, 0, 5)
	get(t, h, p, 1, 0)
}

func TestRoots(t *testing.T) {
	h := made(t, plenty())
	if heap.Roots != 16 {
		t.Errorf("%d roots", heap.Roots)
	}
	var list []int
	for i := range heap.Roots {
		p := alloc(t, h, plain(i+1))
		root(t, h, i, p)
		list = append(list, p)
	}
	other := alloc(t, h, plain(1))
	for _, i := range []int{math.MinInt, -2, -1, heap.Roots, heap.Roots + 1, math.MaxInt} {
		want(t, "Root of no such root", h.Root(i, other), api.ErrArg)
		want(t, "Root of no such root, of none", h.Root(i, 0), api.ErrArg)
		want(t, "Root of no such root, of no object", h.Root(i, 12345), api.ErrArg)
	}
	for i := range heap.Roots {
		for _, p := range append(noPointers(), list[i]+api.MaxWords) {
			want(t, "Root of no object", h.Root(i, p), api.ErrNone)
		}
	}
	cycled(t, h)
	has(t, h, true, list...)
	has(t, h, false, other)
	for i, p := range list {
		want(t, "Root of an object that was freed", h.Root(i, other), api.ErrNone)
		root(t, h, i, 0)
		cycled(t, h)
		has(t, h, false, p)
		has(t, h, true, list[i+1:]...)
	}
	objects(t, h, 0, 0)
}

func TestSeveralRootsOfOneObject(t *testing.T) {
	h := made(t, plenty())
	p, q := alloc(t, h, plain(1)), alloc(t, h, plain(1))
	root(t, h, 3, p)
	root(t, h, 5, p)
	root(t, h, 3, q)
	cycled(t, h)
	has(t, h, true, p, q)
	root(t, h, 5, q)
	cycled(t, h)
	has(t, h, false, p)
	has(t, h, true, q)
}

func TestHasAndLen(t *testing.T) {
	h := made(t, plenty())
	p, q := alloc(t, h, shape("pwp")), alloc(t, h, plain(api.MaxWords))
	for _, n := range append(noPointers(), 0, p+1, p+2, q+1, q-1, q+api.MaxWords-1, q+api.MaxWords) {
		has(t, h, false, n)
		if got := h.Len(n); got != 0 {
			t.Errorf("Len(%d): %d", n, got)
		}
	}
	h.Full()
	has(t, h, false, p, q)
	if h.Len(p) != 0 || h.Len(q) != 0 {
		t.Error("Len of objects that were freed")
	}
}

// filled writes words that are no other object's into all words of an object; they begin with its number.
func filled(t testing.TB, h *heap.Heap, p, number int) {
	t.Helper()
	for i := range h.Len(p) {
		put(t, h, p, i, uint64(number)<<20|uint64(i))
	}
}

// holds fails the test if these words don't stand there any more.
func holds(t testing.TB, h *heap.Heap, p, number int) {
	t.Helper()
	for i := range h.Len(p) {
		get(t, h, p, i, uint64(number)<<20|uint64(i))
	}
}

func TestNoTwoObjectsHaveAWordInCommon(t *testing.T) {
	const procs = 3
	h := made(t, api.Config{Procs: procs, Pages: 1000, Gogc: -1})
	alive := map[int]int{} // numbers by pointers
	var hand []int
	h.More(list(&hand))
	number := 0
	for round := range 6 {
		for n := 1; n <= 140; n++ {
			number++
			p := allocFor(t, h, n%procs, plain((n*37+round)%170+1))
			if alive[p] != 0 {
				t.Fatalf("the pointer %d is another object's", p)
			}
			alive[p] = number
			filled(t, h, p, number)
		}
		hand = nil
		for p, n := range alive {
			holds(t, h, p, n)
			if n%3 != round%3 {
				hand = append(hand, p)
			} else {
				delete(alive, p)
			}
		}
		h.Full()
		if n := h.Stats().Objects; n != len(alive) {
			t.Fatalf("%d objects, want %d", n, len(alive))
		}
		for p, n := range alive {
			holds(t, h, p, n)
		}
	}
}

func TestWordsOfAnObjectInTheRoomOfAnotherOneAre0(t *testing.T) {
	for _, n := range []int{1, 2, 3, 7, 8, 40, 63, 64, 65, 100, 128, 1000, api.MaxWords} {
		h := made(t, api.Config{Procs: 1, Pages: 40, Gogc: -1})
		places := map[int]int{}
		again := 0
		for round := range 5 {
			for range 3 {
				p := alloc(t, h, plain(n)) // it looks whether all words are 0
				filled(t, h, p, round+1)
				again += places[p]
				places[p] = 1
			}
			h.Full()
			h.Scavenge(round % 2 * 40)
		}
		if again == 0 {
			t.Errorf("of %d words none lies where one lay", n)
		}
	}
}

func TestAPointerStays(t *testing.T) {
	h := made(t, api.Config{Procs: 2, Pages: 2000, Gogc: 100})
	row := chain(t, h, 50)
	root(t, h, 7, row[0])
	for i, p := range row {
		put(t, h, p, 1, uint64(1000+i))
	}
	for round := range 2000 {
		h.Alloc(round%2, plain(round%300+1))
		if round%50 == 0 {
			h.Full()
			h.Scavenge(round)
		}
		p := row[0]
		for i := range row {
			if p != row[i] {
				t.Fatalf("the object %d has the pointer %d, not %d", i, p, row[i])
			}
			get(t, h, p, 1, uint64(1000+i))
			next, _ := h.Get(p, 0)
			p = int(next)
		}
	}
	if h.Stats().Cycles < 50 {
		t.Error("there were too few cycles")
	}
}

func TestAShapeIsNeitherChangedNorKept(t *testing.T) {
	h := made(t, plenty())
	all := []bool{true, false, true, true, true}
	s := all[1:3]
	p := alloc(t, h, s)
	if fmt.Sprint(all) != "[true false true true true]" {
		t.Errorf("the shape is %v now", all)
	}
	s[0], s[1] = true, false
	if h.Len(p) != 2 {
		t.Errorf("Len: %d", h.Len(p))
	}
	put(t, h, p, 0, 12345)
	want(t, "Put into the pointer", h.Put(p, 1, 12345), api.ErrNone)
	root(t, h, 0, p)
	q := alloc(t, h, plain(1))
	put(t, h, p, 1, uint64(q))
	put(t, h, p, 0, uint64(q))
	cycled(t, h)
	has(t, h, true, p, q)
	put(t, h, p, 1, 0)
	cycled(t, h)
	has(t, h, false, q)
}

func TestANilHeap(t *testing.T) {
	var h *heap.Heap
	if h.Memory() != nil {
		t.Error("a nil heap has a memory")
	}
	asked := func(func(int) bool) { t.Error("a nil heap asks") }
	h.More(asked)
	h.Refs(1, asked)
	h.Full()
	h.Shade(1)
	refused(t, h, 0, plain(1), api.ErrState)
	refused(t, h, -1, nil, api.ErrState)
	refused(t, h, 0, plain(api.MaxWords+1), api.ErrState)
	want(t, "Start", h.Start(), api.ErrState)
	if h.Work() {
		t.Error("a nil heap works")
	}
	has(t, h, false, -1, 0, 1)
	if h.Len(1) != 0 || h.Scavenge(1) != 0 {
		t.Error("Len or Scavenge of a nil heap")
	}
	getRefused(t, h, 1, 0, api.ErrState)
	getRefused(t, h, 0, -1, api.ErrState)
	want(t, "Put", h.Put(1, 0, 0), api.ErrState)
	want(t, "Put", h.Put(0, -1, 5), api.ErrState)
	want(t, "Root", h.Root(0, 0), api.ErrState)
	want(t, "Root", h.Root(-1, 5), api.ErrState)
	want(t, "Give", h.Give(0), api.ErrState)
	for _, n := range []int{-1, 0, 1} {
		if base, e := h.Pages(n); base != 0 || e != api.ErrState {
			t.Errorf("Pages(%d): %d, %d", n, base, e)
		}
	}
	stats(t, h, api.Stats{})
}

func TestTwoHeapsAreTwo(t *testing.T) {
	g, h := made(t, plenty()), made(t, plenty())
	p, q := alloc(t, g, plain(1)), alloc(t, h, plain(1))
	put(t, g, p, 0, 1)
	put(t, h, q, 0, 2)
	g.Full()
	has(t, g, false, p)
	get(t, h, q, 0, 2)
	if g.Memory() == h.Memory() {
		t.Error("two heaps have one memory")
	}
}
