package heap_test

import (
	"math"
	"testing"

	"treadle/api"
	"treadle/heap"
)

// pages asks for a span, which must begin where is told.
func pages(t testing.TB, h *heap.Heap, n, base int) {
	t.Helper()
	if got, e := h.Pages(n); got != base || e != api.OK {
		t.Fatalf("Pages(%d): %d, %d, want %d", n, got, e, base)
	}
}

// noPages fails the test if Pages answers another error, or a page.
func noPages(t testing.TB, h *heap.Heap, n int, e api.Errno) {
	t.Helper()
	if base, got := h.Pages(n); base != 0 || got != e {
		t.Errorf("Pages(%d): %d, %d, want 0, %d", n, base, got, e)
	}
}

// fresh fails the test if one of these pages isn't mapped, or has a word that isn't 0; then it writes other words.
func fresh(t testing.TB, h *heap.Heap, base, n int) {
	t.Helper()
	m := h.Memory()
	for page := base; page < base+n; page++ {
		if s := m.State(page); s != 1 {
			t.Errorf("the state of the page %d is %d", page, s)
		}
	}
	for addr := base * api.PageWords; addr < (base+n)*api.PageWords; addr++ {
		if w, e := m.Load(addr); w != 0 || e != api.OK {
			t.Fatalf("the word %d is %d, %d", addr, w, e)
		}
		m.Store(addr, 1<<63|uint64(addr))
	}
}

// mapped fails the test if other than so many pages are mapped.
func mapped(t testing.TB, h *heap.Heap, n int) {
	t.Helper()
	s := h.Stats()
	if m, _ := h.Memory().Counts(); s.Mapped != n || m != n {
		t.Errorf("Mapped: %d; the memory maps %d; want %d", s.Mapped, m, n)
	}
}

func TestPagesAndGive(t *testing.T) {
	h := made(t, api.Config{Procs: 1, Pages: 20, Gogc: -1})
	pages(t, h, 3, 0)
	pages(t, h, 1, 3)
	pages(t, h, 10, 4)
	fresh(t, h, 0, 14)
	mapped(t, h, 14)
	for _, base := range []int{math.MinInt, -1, 1, 2, 5, 13, 14, 19, 20, 21, math.MaxInt} {
		want(t, "Give of no span", h.Give(base), api.ErrNone)
	}
	want(t, "Give(3)", h.Give(3), api.OK)
	want(t, "Give(3) again", h.Give(3), api.ErrNone)
	mapped(t, h, 14)
	pages(t, h, 1, 3)
	fresh(t, h, 3, 1)
	want(t, "Give(0)", h.Give(0), api.OK)
	want(t, "Give(4)", h.Give(4), api.OK)
	pages(t, h, 16, 4)
	fresh(t, h, 4, 16)
	pages(t, h, 2, 0)
	fresh(t, h, 0, 2)
	mapped(t, h, 20)
	objects(t, h, 0, 0)
}

func TestPagesRefuses(t *testing.T) {
	h := made(t, api.Config{Procs: 1, Pages: 20, Gogc: -1})
	for _, n := range []int{0, -1, -20, math.MinInt} {
		noPages(t, h, n, api.ErrArg)
	}
	stats(t, h, api.Stats{Goal: noGoal})
	for i, n := range []int{21, 22, api.MaxPages + 1, math.MaxInt} {
		noPages(t, h, n, api.ErrFull)
		// Ahead of that there was a Full.
		stats(t, h, api.Stats{Goal: noGoal, Cycles: i + 1})
	}
	pages(t, h, 20, 0)
	stats(t, h, api.Stats{Goal: noGoal, Cycles: 4, Mapped: 20})
	noPages(t, h, 1, api.ErrFull)
	refused := h.Stats()
	noPages(t, h, 0, api.ErrArg)
	stats(t, h, refused)
}

func TestPagesMakesAFullAheadOfErrFull(t *testing.T) {
	for pieces := -1; pieces < 10; pieces++ {
		h := made(t, api.Config{Procs: 2, Pages: 20, Gogc: -1})
		kept := alloc(t, h, plain(64))
		root(t, h, 0, kept)
		filled(t, h, kept, 3)
		for range 4 {
			alloc(t, h, plain(200))
		}
		allocFor(t, h, 1, plain(1))
		if pieces >= 0 {
			start(t, h)
			work(h, pieces)
		}
		pages(t, h, 19, 1)
		fresh(t, h, 1, 19)
		objects(t, h, 1, 64)
		holds(t, h, kept, 3)
		noPages(t, h, 1, api.ErrFull)
		if _, e := h.Alloc(0, plain(1)); e != api.ErrFull {
			t.Errorf("Alloc where all pages are in spans: %d", e)
		}
		holds(t, h, kept, 3)
		want(t, "Give(1)", h.Give(1), api.OK)
		alloc(t, h, plain(1))
	}
}

func TestPagesWhereThereIsRoomMakesNoFull(t *testing.T) {
	h := made(t, api.Config{Procs: 1, Pages: 20, Gogc: -1})
	p := alloc(t, h, plain(5))
	pages(t, h, 19, 1)
	if s := h.Stats(); s.Cycles != 0 {
		t.Errorf("%d cycles", s.Cycles)
	}
	has(t, h, true, p)
}

func TestGiveOfPagesWithObjects(t *testing.T) {
	h := made(t, plenty())
	var row []int
	for _, n := range []int{1, 64, 65, api.MaxWords} {
		row = append(row, alloc(t, h, plain(n)))
	}
	for page := -1; page < 40; page++ {
		want(t, "Give of objects' pages", h.Give(page), api.ErrNone)
	}
	has(t, h, true, row...)
}

// TestObjectsAndSpansHaveNoWordInCommon: with all that is given back and used again.
func TestObjectsAndSpansHaveNoWordInCommon(t *testing.T) {
	h := made(t, api.Config{Procs: 2, Pages: 120, Gogc: -1})
	type span struct{ base, n int }
	var spans []span
	var hand []int
	h.More(list(&hand))
	for round := range 300 {
		if n := round*7%9 + 1; round%2 == 0 {
			base, e := h.Pages(n)
			want(t, "Pages", e, api.OK)
			fresh(t, h, base, n)
			spans = append(spans, span{base, n})
		}
		p := allocFor(t, h, round%2, plain(round*31%150+1))
		filled(t, h, p, round)
		hand = append(hand, p)
		for i, p := range hand {
			holds(t, h, p, round-len(hand)+1+i)
		}
		for _, s := range spans {
			for addr := s.base * api.PageWords; addr < (s.base+s.n)*api.PageWords; addr++ {
				if w, e := h.Memory().Load(addr); w != 1<<63|uint64(addr) || e != api.OK {
					t.Fatalf("the word %d is %d, %d", addr, w, e)
				}
			}
		}
		if len(hand) > 20 {
			hand = hand[1:]
		}
		if len(spans) > 8 {
			want(t, "Give", h.Give(spans[0].base), api.OK)
			spans = spans[1:]
		}
		if round%10 == 0 {
			h.Full()
			h.Scavenge(round % 30)
		}
	}
}

func TestScavenge(t *testing.T) {
	h := made(t, api.Config{Procs: 1, Pages: 20, Gogc: -1})
	for _, n := range []int{math.MinInt, -1, 0, 1, 20, math.MaxInt} {
		if got := h.Scavenge(n); got != 0 {
			t.Errorf("of a new heap Scavenge(%d): %d", n, got)
		}
	}
	pages(t, h, 6, 0)
	pages(t, h, 4, 6)
	mapped(t, h, 10)
	if got := h.Scavenge(20); got != 0 {
		t.Errorf("of used pages Scavenge: %d", got)
	}
	want(t, "Give(0)", h.Give(0), api.OK)
	for _, n := range []int{math.MinInt, -1, 0} {
		if got := h.Scavenge(n); got != 0 {
			t.Errorf("Scavenge(%d): %d", n, got)
		}
	}
	mapped(t, h, 10)
	for _, x := range []struct{ n, given, mapped int }{{1, 1, 9}, {2, 2, 7}, {4, 3, 4}, {4, 0, 4}, {math.MaxInt, 0, 4}} {
		if got := h.Scavenge(x.n); got != x.given {
			t.Errorf("Scavenge(%d): %d, want %d", x.n, got, x.given)
		}
		mapped(t, h, x.mapped)
	}
	// The span that is left is as it was; the pages that were given back are used again.
	fresh(t, h, 6, 4)
	pages(t, h, 6, 0)
	fresh(t, h, 0, 6)
	mapped(t, h, 10)
}

func TestScavengeOfObjectsPages(t *testing.T) {
	for _, n := range []int{1, 10, 64, 65, 500, api.MaxWords} {
		h := made(t, api.Config{Procs: 1, Pages: 70, Gogc: -1})
		kept := alloc(t, h, plain(n))
		root(t, h, 0, kept)
		filled(t, h, kept, 4)
		least := h.Stats().Mapped
		for range 3 {
			filled(t, h, alloc(t, h, plain(n)), 5)
		}
		most := h.Stats().Mapped
		if got := h.Scavenge(70); got != 0 {
			t.Errorf("of %d words: %d pages with objects were given back", n, got)
		}
		h.Full()
		mapped(t, h, most)
		if got := h.Scavenge(70); got != most-least {
			t.Errorf("of %d words: %d pages were given back, want %d", n, got, most-least)
		}
		mapped(t, h, least)
		holds(t, h, kept, 4)
		for range 3 {
			alloc(t, h, plain(n)) // it looks whether all words are 0
		}
		mapped(t, h, most)
		holds(t, h, kept, 4)
	}
}

// TestPagesOfABlockThatNobodyHolds: they are free when the last of its objects is freed, by whatever cycle, all of them.
func TestPagesOfABlockThatNobodyHolds(t *testing.T) {
	for _, x := range []struct{ words, cells, pages int }{{40, 3, 2}, {48, 4, 3}, {64, 1, 1}, {20, 3, 1}, {24, 5, 2}} {
		h := made(t, api.Config{Procs: 1, Pages: 30, Gogc: -1})
		for range x.cells {
			alloc(t, h, plain(x.words))
		}
		mapped(t, h, x.pages)
		// The processor lets the block go, as it has no free cell, and holds another one.
		last := alloc(t, h, plain(x.words))
		mapped(t, h, 2*x.pages)
		root(t, h, 0, last)
		cycled(t, h)
		objects(t, h, 1, uint64(x.words))
		if got := h.Scavenge(30); got != x.pages {
			t.Errorf("of %d words %d pages are free, want %d", x.words, got, x.pages)
		}
		mapped(t, h, x.pages)
	}
}

// TestMemory: the words of objects stand there, and nowhere else.
func TestMemory(t *testing.T) {
	h := made(t, api.Config{Procs: 1, Pages: 10, Gogc: -1})
	m := h.Memory()
	p := alloc(t, h, plain(3))
	find := func(w uint64) int {
		n := 0
		for addr := range 10 * api.PageWords {
			if got, e := m.Load(addr); e == api.OK && got == w {
				n++
			}
		}
		return n
	}
	put(t, h, p, 1, 987654321)
	if n := find(987654321); n != 1 {
		t.Errorf("the word stands in the memory %d times", n)
	}
	put(t, h, p, 1, 0)
	if n := find(987654321); n != 0 {
		t.Errorf("the word that was there stands in the memory %d times", n)
	}
}

// TestWordsThatAreWrittenPastTheHeap: whatever stands in free pages, what lies there later is 0.
func TestWordsThatAreWrittenPastTheHeap(t *testing.T) {
	h := made(t, api.Config{Procs: 1, Pages: 30, Gogc: -1})
	m := h.Memory()
	pages(t, h, 10, 0)
	want(t, "Give(0)", h.Give(0), api.OK)
	h.Scavenge(5)
	want(t, "Map", m.Map(10, 10), api.OK)
	for addr := range 20 * api.PageWords {
		want(t, "Store", m.Store(addr, 7), api.OK)
	}
	pages(t, h, 15, 0)
	fresh(t, h, 0, 15)
	alloc(t, h, plain(api.MaxWords-70))
}

// TestAMemoryThatIsTakenAway: nothing ends the program, whatever is done to the memory past the heap.
func TestAMemoryThatIsTakenAway(t *testing.T) {
	h := made(t, api.Config{Procs: 1, Pages: 30, Gogc: 100})
	row := chain(t, h, 60)
	root(t, h, 0, row[0])
	h.Refs(row[0], gives(row...))
	m := h.Memory()
	for page := range 30 {
		for i := range api.PageWords {
			m.Store(page*api.PageWords+i, math.MaxUint64-uint64(i))
		}
	}
	h.Full()
	for page := range 30 {
		m.Unmap(page, 1)
	}
	for _, p := range row {
		h.Get(p, 0)
		h.Get(p, 1)
		h.Put(p, 0, uint64(row[0]))
		h.Put(p, 1, 1)
	}
	for n := range 300 {
		h.Alloc(0, leading(n%70+1))
	}
	h.Pages(3)
	h.Full()
	h.Scavenge(30)
	has(t, h, true, row[0])
}
