package heap_test

import (
	"math"
	"testing"

	"treadle/api"
	"treadle/heap"
	"treadle/pacer"
)

// pace is how a heap is paced.
type pace struct {
	gogc  int
	limit uint64
}

func paces() []pace {
	return []pace{
		{100, 0}, {100, 300}, {100, 5000}, {0, 0}, {0, 1000}, {50, 0}, {1, 0}, {300, 0}, {300, 20000},
		{-1, 400}, {-1, 20000}, {math.MinInt, 3000}, {math.MaxInt, 30000}, {100, 1}, {-1, 1},
	}
}

// paced is a heap with all pages that is so paced.
func (x pace) paced(t testing.TB) *heap.Heap {
	t.Helper()
	return made(t, api.Config{Procs: 1, Pages: api.MaxPages, Gogc: x.gogc, Limit: x.limit})
}

// trigger is that of a pacer behind an End.
func (x pace) trigger(live, roots uint64) uint64 {
	p := pacer.New(x.gogc, x.limit)
	p.End(live, roots)
	_, _, trigger, _ := p.Counts()
	return trigger
}

func TestACycleBeginsByItselfWhenOneIsDue(t *testing.T) {
	for _, x := range paces() {
		for _, n := range []int{1, 5, 64, 100} {
			h := x.paced(t)
			trigger := x.trigger(0, 0)
			for h.Stats().Words < trigger {
				alloc(t, h, plain(n))
				if s := h.Stats(); s.Phase != off || s.Cycles != 0 {
					t.Fatalf("%v: a cycle has begun, of %d words", x, s.Words)
				}
			}
			alloc(t, h, plain(n))
			if s := h.Stats(); s.Phase == off && s.Cycles == 0 {
				t.Errorf("%v: none has begun, of %d words", x, s.Words)
			}
		}
	}
}

func TestTheNextCycleBeginsWhenItIsDue(t *testing.T) {
	for _, x := range paces() {
		h := x.paced(t)
		var hand []int
		h.More(list(&hand))
		for range 20 {
			hand = append(hand, alloc(t, h, plain(7)))
		}
		root(t, h, 0, hand[0])
		root(t, h, 5, hand[7])
		h.Full()
		trigger := x.trigger(140, 22)
		cycles := h.Stats().Cycles
		for h.Stats().Words < trigger {
			alloc(t, h, plain(3))
			if s := h.Stats(); s.Phase != off || s.Cycles != cycles {
				t.Fatalf("%v: a cycle has begun, of %d words", x, s.Words)
			}
		}
		alloc(t, h, plain(3))
		if s := h.Stats(); s.Phase == off && s.Cycles == cycles {
			t.Errorf("%v: none has begun, of %d words", x, s.Words)
		}
	}
}

func TestWithoutAGoalNoneBeginsByItself(t *testing.T) {
	for _, gogc := range []int{-1, -100, math.MinInt} {
		h := pace{gogc, 0}.paced(t)
		for h.Stats().Words < 200000 {
			alloc(t, h, plain(1000))
		}
		stats(t, h, api.Stats{Words: 200000, Objects: 200, Goal: noGoal, Mapped: 3200})
	}
}

// watched lets the functions of objects tell how many words were gone through.
func watched(h *heap.Heap, row []int) *uint64 {
	through := new(uint64)
	for _, p := range row {
		h.Refs(p, func(func(int) bool) { *through += uint64(h.Len(p)) })
	}
	return through
}

// TestAllocGoesThroughWhatIsOwed: a pacer that is told the same tells how much that is.
func TestAllocGoesThroughWhatIsOwed(t *testing.T) {
	for _, x := range []pace{{-1, 0}, {100, 0}, {100, 900}, {300, 2000}, {0, 0}, {-1, 1200}} {
		for _, n := range []int{1, 10, 64, 200} {
			for _, pieces := range []int{0, 3} {
				h := x.paced(t)
				p := pacer.New(x.gogc, x.limit)
				var row []int
				for range 10 {
					q := alloc(t, h, plain(10))
					p.Alloc(10)
					row = append(row, q)
				}
				h.More(list(&row))
				through := watched(h, row)
				start(t, h)
				p.Begin()
				work(h, pieces)
				for h.Stats().Phase == marking {
					before := *through
					owed := p.Owes(uint64(n))
					alloc(t, h, plain(n))
					if done := *through - before; done < owed && h.Stats().Phase == marking {
						t.Errorf("%v: of %d words %d were gone through, owed were %d", x, n, done, owed)
					}
				}
				if *through != 100 {
					t.Errorf("%v: %d words were gone through in all", x, *through)
				}
			}
		}
	}
}

func TestTheAllocThatBeginsACycleOwesToo(t *testing.T) {
	h := pace{100, 0}.paced(t)
	p := pacer.New(100, 0)
	row := chain(t, h, 96)
	p.Alloc(192)
	root(t, h, 0, row[0])
	through := watched(h, row)
	p.Begin()
	alloc(t, h, plain(10))
	if owed := p.Owes(10); *through < owed || *through >= 192 || h.Stats().Phase != marking {
		t.Errorf("%d words were gone through, %d are owed; the phase is %d", *through, owed, h.Stats().Phase)
	}
}

func TestAllocSweepsTwoObjects(t *testing.T) {
	for _, dead := range []int{0, 1, 2, 3, 50, 51} {
		h := made(t, plenty())
		root(t, h, 0, chain(t, h, 20)[0])
		chain(t, h, dead)
		start(t, h)
		until(t, h, sweeping)
		allocs := 0
		for h.Stats().Phase == sweeping {
			before := h.Stats().Objects
			alloc(t, h, plain(1))
			allocs++
			if freed := before + 1 - h.Stats().Objects; freed < 0 || freed > 2 {
				t.Errorf("an Alloc has freed %d objects", freed)
			}
		}
		if most := (20+dead)/2 + 1; allocs > most || allocs < (20+dead)/2 {
			t.Errorf("%d objects were swept by %d Allocs", 20+dead, allocs)
		}
		objects(t, h, 20+allocs, uint64(40+allocs))
	}
}

func TestACycleThatIsDueFinishesTheOneThatSweeps(t *testing.T) {
	for pieces := range 4 {
		h := pace{100, 0}.paced(t)
		row := chain(t, h, 45)
		root(t, h, 0, row[0])
		start(t, h)
		until(t, h, sweeping)
		work(h, pieces)
		// There is room for 256 words: what is made while the cycle sweeps makes the next one due.
		big := alloc(t, h, plain(300))
		root(t, h, 1, big)
		if s := h.Stats(); s.Phase != sweeping || s.Cycles != 0 {
			t.Fatalf("the cycle that sweeps has ended: %+v", s)
		}
		alloc(t, h, plain(1))
		if s := h.Stats(); s.Cycles != 1 || s.Phase == off {
			t.Errorf("none has begun behind the one that swept: %+v", s)
		}
		finish(t, h)
		has(t, h, true, row...)
		has(t, h, true, big)
	}
}

func TestWhileACycleMarksNoOtherOneBegins(t *testing.T) {
	h := pace{100, 0}.paced(t)
	row := chain(t, h, 2000)
	root(t, h, 0, row[0])
	h.Full()
	start(t, h)
	cycles := h.Stats().Cycles
	for h.Stats().Phase == marking {
		alloc(t, h, plain(900))
		if s := h.Stats(); s.Cycles != cycles {
			t.Fatalf("another cycle has ended: %+v", s)
		}
	}
}

// goalOf is the goal that a pacer tells behind an End.
func (x pace) goalOf(live, roots uint64) uint64 {
	p := pacer.New(x.gogc, x.limit)
	p.End(live, roots)
	_, goal, _, _ := p.Counts()
	return goal
}

func TestTheGoalBehindACycle(t *testing.T) {
	for _, x := range append(paces(), pace{-1, 0}, pace{100, 700}) {
		for _, n := range []int{0, 1, 50, 128, 129, 1000} {
			h := x.paced(t)
			var row, hand []int
			h.More(list(&hand))
			for range n {
				p := alloc(t, h, plain(2))
				hand = append(hand, p)
				row = append(row, p)
			}
			finish(t, h)
			h.Full()
			goalIs(t, h, x.goalOf(uint64(2*n), uint64(n)))
			// Roots that lead to one object are several, such as lead to none are none.
			hand = append(hand, 0, 0)
			for i := range min(n, heap.Roots) {
				root(t, h, i, row[0])
			}
			h.Full()
			goalIs(t, h, x.goalOf(uint64(2*n), uint64(n+min(n, heap.Roots))))
			hand = nil
			h.Full()
			goalIs(t, h, x.goalOf(uint64(2*min(n, 1)), uint64(min(n, heap.Roots))))
		}
	}
}

// goalIs fails the test if the goal is another one.
func goalIs(t testing.TB, h *heap.Heap, goal uint64) {
	t.Helper()
	if s := h.Stats(); s.Goal != goal {
		t.Errorf("of %d words the goal is %d, want %d", s.Words, s.Goal, goal)
	}
}

func TestTheGoalOfALimit(t *testing.T) {
	h := pace{100, 500}.paced(t)
	root(t, h, 0, alloc(t, h, plain(200)))
	h.Full()
	goalIs(t, h, 401) // 200 words, and as many, and for the root 1
	root(t, h, 1, alloc(t, h, plain(200)))
	h.Full()
	goalIs(t, h, 500)
	root(t, h, 2, alloc(t, h, plain(200)))
	h.Full()
	goalIs(t, h, 600)
	root(t, h, 0, 0)
	root(t, h, 1, 0)
	h.Full()
	goalIs(t, h, 401)
}

func TestTheGoalIsReckonedWhenMarkingEnds(t *testing.T) {
	h := pace{100, 0}.paced(t)
	row := chain(t, h, 80)
	root(t, h, 0, row[0])
	root(t, h, 1, row[40])
	chain(t, h, 10)
	start(t, h)
	// What the roots hold when marking begins counts, and what is gone through, not what is made meanwhile.
	root(t, h, 2, row[3])
	root(t, h, 3, row[4])
	root(t, h, 1, 0)
	fresh := alloc(t, h, plain(40))
	root(t, h, 4, fresh)
	put(t, h, row[50], 0, 0)
	goalIs(t, h, 256)
	for h.Stats().Phase == marking {
		goalIs(t, h, 256)
		h.Work()
	}
	goalIs(t, h, 160+162)
	finish(t, h)
	goalIs(t, h, 160+162)
	cycled(t, h)
	goalIs(t, h, 142+146)
}

func TestTheHeapGrowsNoFurtherThanItsGoal(t *testing.T) {
	lengths := []int{1, 2, 3, 5, 17, 64, 65, 300, api.MaxWords}
	for _, x := range paces() {
		ended := 0
		for _, kept := range []int{1, 40, 120} {
			ended += grows(t, x, kept, lengths)
			for _, n := range []int{1, 64, api.MaxWords} {
				ended += grows(t, x, kept, []int{n})
			}
		}
		if ended == 0 {
			t.Errorf("%v: no marking has begun by itself and ended", x)
		}
	}
}

// grows makes objects of these lengths, the last ones of which are kept, and looks how great the heap is when a marking ends that has begun by itself. It answers how many did.
func grows(t *testing.T, x pace, kept int, lengths []int) int {
	h := x.paced(t)
	hand := make([]int, kept)
	h.More(list(&hand))
	ended := 0
	bound := uint64(0) // of the marking under way, if it has begun by itself
	before := h.Stats()
	for n := 0; n < 3*kept+300; n++ {
		words := lengths[n%len(lengths)]
		p, e := h.Alloc(0, append([]bool{true}, plain(words-1)...))
		if e != api.OK {
			break // not all of that goes into the pages
		}
		// What stood there was there when the marking under way began, so that it keeps it.
		hand[n%kept] = p
		after := h.Stats()
		if before.Phase != marking && after.Phase != off && (after.Phase == marking || before.Phase == off) {
			bound = max(before.Goal, before.Words)
		}
		if bound > 0 && after.Phase != marking {
			ended++
			if after.Words > bound+2*api.MaxWords {
				t.Errorf("%v: %d words when marking ends, of %d", x, after.Words, bound)
			}
			bound = 0
		}
		before = after
	}
	return ended
}

// TestNoErrFullWhereThereIsRoom: P19.5 at its bound.
func TestNoErrFullWhereThereIsRoom(t *testing.T) {
	for _, gogc := range []int{-1, 100} {
		for _, procs := range []int{1, 2} {
			for _, kept := range []int{0, 1, 5, 20} {
				for _, spans := range []int{0, 1, 5} {
					pages := 64 * (kept + spans + 16*procs + 1)
					h := made(t, api.Config{Procs: procs, Pages: pages, Gogc: gogc})
					var hand []int
					h.More(list(&hand))
					var bases []int
					for n := range 4000 {
						words := (n*389)%api.MaxWords + 1
						p, e := h.Alloc(n%procs, plain(words))
						if e != api.OK {
							t.Fatalf("%d processors, %d pages: the Alloc %d of %d words: %d", procs, pages, n, words, e)
						}
						if kept > 0 {
							if len(hand) == kept {
								h.Shade(hand[0])
								hand = hand[1:]
							}
							if len(hand) < kept-1 || n%5 > 0 {
								hand = append(hand, p)
							}
						}
						if spans > 0 && n%3 == 0 {
							if len(bases) == spans {
								want(t, "Give", h.Give(bases[0]), api.OK)
								bases = bases[1:]
							}
							if base, e := h.Pages(n%64 + 1); e == api.OK {
								bases = append(bases, base)
							}
						}
					}
				}
			}
		}
	}
}

func TestNoErrFullBehindMuchGarbage(t *testing.T) {
	for _, gogc := range []int{-1, 0, 100, 1 << 20} {
		for _, n := range []int{1, 3, 64, 65, 1000, api.MaxWords} {
			h := made(t, api.Config{Procs: 8, Pages: 64 * (1 + 16*8 + 1) / 8, Gogc: gogc})
			p := alloc(t, h, plain(n))
			root(t, h, 0, p)
			filled(t, h, p, 9)
			for i := range 200000 / (n + 20) {
				allocFor(t, h, i%8, plain(n))
			}
			holds(t, h, p, 9)
		}
	}
}

// TestErrFull: where all that there is can be reached, there is a Full ahead of ErrFull, and what there is stays.
func TestErrFull(t *testing.T) {
	for _, gogc := range []int{-1, 100} {
		for _, n := range []int{1, 6, 64, 65, 128, api.MaxWords} {
			h := made(t, api.Config{Procs: 2, Pages: 33, Gogc: gogc})
			var hand []int
			h.More(list(&hand))
			cycles := 0
			for {
				cycles = h.Stats().Cycles
				p, e := h.Alloc(0, plain(n))
				if e != api.OK {
					if p != 0 || e != api.ErrFull {
						t.Errorf("Alloc where there is no room: %d, %d", p, e)
					}
					break
				}
				hand = append(hand, p)
				filled(t, h, p, len(hand))
			}
			room := 33 * api.PageWords / n
			if len(hand) > room || len(hand) < room*3/4-64 {
				t.Errorf("%d objects of %d words in 33 pages", len(hand), n)
			}
			if s := h.Stats(); s.Cycles <= cycles || s.Phase != off || s.Objects != len(hand) {
				t.Errorf("no Full was made: %+v", s)
			}
			for i, p := range hand {
				holds(t, h, p, i+1)
			}
			if n > 64 {
				refused(t, h, 5, plain(n), api.ErrArg)
			}
			hand = hand[1:]
			hand = append(hand, alloc(t, h, plain(n)))
		}
	}
}

func TestErrFullBehindACycleUnderWay(t *testing.T) {
	for pieces := range 12 {
		h := made(t, api.Config{Procs: 1, Pages: 32, Gogc: -1})
		a, b := alloc(t, h, plain(api.MaxWords)), alloc(t, h, plain(api.MaxWords))
		root(t, h, 0, a)
		root(t, h, 1, b)
		start(t, h)
		work(h, pieces)
		// The cycle under way keeps b; a whole one doesn't.
		root(t, h, 1, 0)
		root(t, h, 2, alloc(t, h, plain(api.MaxWords)))
		has(t, h, true, a)
		objects(t, h, 2, 2*api.MaxWords)
		if _, e := h.Alloc(0, plain(1)); e != api.ErrFull {
			t.Errorf("behind %d pieces there is room", pieces)
		}
	}
}
