package heap_test

import (
	"fmt"
	"slices"
	"testing"

	"treadle/api"
	"treadle/heap"
)

// graph is how objects are laid out: it makes n of them, and answers them; the first one leads to all others.
type graph struct {
	name string
	lay  func(t testing.TB, h *heap.Heap, n int) []int
}

// tree makes n objects, each of which leads to the two behind it, as far as there are such.
func tree(t testing.TB, h *heap.Heap, n int) []int {
	t.Helper()
	row := make([]int, n)
	for i := n - 1; i >= 0; i-- {
		left, right := 0, 0
		if 2*i+1 < n {
			left = row[2*i+1]
		}
		if 2*i+2 < n {
			right = row[2*i+2]
		}
		row[i] = node(t, h, left, right)
	}
	return row
}

// loop makes a chain whose last object leads to the first one.
func loop(t testing.TB, h *heap.Heap, n int) []int {
	t.Helper()
	row := chain(t, h, n)
	put(t, h, row[n-1], 0, uint64(row[0]))
	return row
}

// web makes n objects, each of which leads to all of them.
func web(t testing.TB, h *heap.Heap, n int) []int {
	t.Helper()
	row := make([]int, n)
	for i := range row {
		row[i] = alloc(t, h, append(leading(n), false))
	}
	for _, p := range row {
		for i, q := range row {
			put(t, h, p, i, uint64(q))
		}
	}
	return row
}

// star makes an object that leads to n-1 objects without pointers.
func star(t testing.TB, h *heap.Heap, n int) []int {
	t.Helper()
	row := []int{alloc(t, h, leading(n))}
	for i := range n - 1 {
		p := alloc(t, h, plain(1))
		put(t, h, row[0], i, uint64(p))
		row = append(row, p)
	}
	return row
}

func graphs() []graph {
	return []graph{{"chain", chain}, {"tree", tree}, {"loop", loop}, {"web", web}, {"star", star}}
}

func TestStartAndWork(t *testing.T) {
	h := made(t, plenty())
	for cycle := range 5 {
		stats(t, h, api.Stats{Cycles: cycle, Goal: noGoal})
		if h.Work() {
			t.Fatal("Work with none under way: true")
		}
		stats(t, h, api.Stats{Cycles: cycle, Goal: noGoal})
		start(t, h)
		stats(t, h, api.Stats{Phase: marking, Cycles: cycle, Goal: noGoal})
		for h.Stats().Phase != off {
			s := h.Stats()
			want(t, "Start with a cycle under way", h.Start(), api.ErrState)
			stats(t, h, s)
			if !h.Work() {
				t.Fatal("Work with a cycle under way: false")
			}
		}
	}
}

func TestThePhaseBehindEachPiece(t *testing.T) {
	for _, g := range graphs() {
		for _, n := range []int{1, 2, 3, 10} {
			h := made(t, plenty())
			root(t, h, 1, g.lay(t, h, n)[0])
			g.lay(t, h, n)
			phases := []int{}
			for cycle := range 3 {
				start(t, h)
				phases = append(phases, h.Stats().Phase)
				for h.Work() {
					s := h.Stats()
					phases = append(phases, s.Phase)
					if under := s.Phase != off; s.Cycles != cycle+1 && !under || s.Cycles != cycle && under {
						t.Errorf("%s: in the phase %d of the cycle %d %d cycles have ended", g.name, s.Phase, cycle, s.Cycles)
					}
				}
			}
			if got := slices.Compact(phases); !slices.Equal(got, []int{marking, sweeping, off, marking, sweeping, off, marking, sweeping, off}) {
				t.Errorf("%s of %d: the phases are %v", g.name, n, got)
			}
		}
	}
}

func TestACycleEndsInTime(t *testing.T) {
	for _, g := range graphs() {
		for _, n := range []int{1, 2, 3, 30} {
			for _, dead := range []int{0, 1, 2, 30} {
				h := made(t, plenty())
				root(t, h, 1, g.lay(t, h, n)[0])
				if dead > 0 {
					g.lay(t, h, dead)
				}
				for cycle := range 3 {
					there := h.Stats().Objects
					start(t, h)
					if pieces := finish(t, h); pieces > 2*there+3 {
						t.Errorf("%s of %d, %d dead: the cycle %d takes %d pieces", g.name, n, dead, cycle, pieces)
					}
				}
			}
		}
	}
	h := made(t, plenty())
	start(t, h)
	if pieces := finish(t, h); pieces > 3 {
		t.Errorf("without objects a cycle takes %d pieces", pieces)
	}
}

func TestWhatIsDoneBetweenThePiecesMakesNoneMore(t *testing.T) {
	h := made(t, plenty())
	row := loop(t, h, 20)
	root(t, h, 0, row[0])
	dead := chain(t, h, 20)
	there := h.Stats().Objects
	start(t, h)
	pieces := 0
	for h.Work() {
		pieces++
		for i, p := range row {
			put(t, h, p, 0, uint64(row[(i+1+pieces)%20]))
			h.Shade(p)
			h.Refs(p, gives(row...))
			root(t, h, 1+i%15, p)
		}
		h.Has(dead[0])
		h.Len(dead[0])
		h.Get(dead[0], 0)
	}
	if pieces > 2*there+3 {
		t.Errorf("the cycle takes %d pieces, of %d objects", pieces, there)
	}
	has(t, h, true, row...)
	has(t, h, false, dead...)
}

func TestAPieceGoesThroughOneObjectAtMost(t *testing.T) {
	h := made(t, plenty())
	row := tree(t, h, 40)
	root(t, h, 0, row[0])
	asked := 0
	for _, p := range row {
		h.Refs(p, func(func(int) bool) { asked++ })
	}
	tree(t, h, 40)
	start(t, h)
	if asked > 0 {
		t.Errorf("Start goes through %d objects", asked)
	}
	for n := 0; ; n = asked {
		s := h.Stats()
		if !h.Work() {
			break
		}
		if asked > n+1 {
			t.Errorf("a piece goes through %d objects", asked-n)
		}
		if now := h.Stats().Objects; now < s.Objects-1 || s.Phase == marking && now != s.Objects {
			t.Errorf("in the phase %d a piece frees %d objects", s.Phase, s.Objects-now)
		}
	}
	if asked != len(row) {
		t.Errorf("%d objects were gone through, want %d", asked, len(row))
	}
	objects(t, h, 40, 40*3)
}

func TestWhatCanBeReachedIsKeptAndNothingElse(t *testing.T) {
	for _, g := range graphs() {
		for _, n := range []int{1, 2, 5, 40} {
			h := made(t, plenty())
			kept, gone := g.lay(t, h, n), g.lay(t, h, n)
			words := h.Stats().Words / 2
			root(t, h, 2, kept[0])
			// What can't be reached leads to what can, which keeps it no more.
			put(t, h, gone[len(gone)/2], 0, uint64(kept[0]))
			for range 3 {
				cycled(t, h)
				has(t, h, true, kept...)
				has(t, h, false, gone...)
				objects(t, h, n, words)
			}
			root(t, h, 2, 0)
			cycled(t, h)
			has(t, h, false, kept...)
			objects(t, h, 0, 0)
		}
	}
}

func TestAnObjectThatLeadsToItself(t *testing.T) {
	h := made(t, plenty())
	p, q := loop(t, h, 1)[0], loop(t, h, 1)[0]
	root(t, h, 0, p)
	cycled(t, h)
	has(t, h, true, p)
	has(t, h, false, q)
	get(t, h, p, 0, uint64(p))
}

func TestAWordThatIsNoPointerKeepsNothing(t *testing.T) {
	h := made(t, plenty())
	p, q := alloc(t, h, shape("wpw")), alloc(t, h, plain(1))
	root(t, h, 0, p)
	put(t, h, p, 0, uint64(q))
	put(t, h, p, 2, uint64(q))
	cycled(t, h)
	has(t, h, false, q)
	get(t, h, p, 0, uint64(q))
	get(t, h, p, 2, uint64(q))
}

func TestALongChain(t *testing.T) {
	h := made(t, plenty())
	row := chain(t, h, 50000)
	root(t, h, 0, row[0])
	h.Full()
	objects(t, h, 50000, 100000)
	put(t, h, row[25000], 0, 0)
	h.Full()
	objects(t, h, 25001, 50002)
	has(t, h, true, row[:25001]...)
	has(t, h, false, row[25001:]...)
	root(t, h, 0, 0)
	h.Full()
	objects(t, h, 0, 0)
}

func TestWhatIsCutOffBetweenThePiecesIsKeptByThisCycleAndFreedByTheNext(t *testing.T) {
	const n = 7
	for pieces := range 2*n + 4 {
		for cut := range n {
			h := made(t, plenty())
			row := chain(t, h, n)
			root(t, h, 0, row[0])
			for i, p := range row {
				put(t, h, p, 1, uint64(100+i))
			}
			start(t, h)
			work(h, pieces)
			if cut == 0 {
				root(t, h, 0, 0)
			} else {
				put(t, h, row[cut-1], 0, 0)
			}
			finish(t, h)
			has(t, h, true, row...)
			for i, p := range row {
				get(t, h, p, 1, uint64(100+i))
			}
			cycled(t, h)
			has(t, h, true, row[:cut]...)
			has(t, h, false, row[cut:]...)
		}
	}
}

func TestWhatIsHungElsewhereBetweenThePiecesIsKept(t *testing.T) {
	const n = 6
	for pieces := range 2*n + 4 {
		for from := 1; from < n; from++ {
			for to := range from {
				h := made(t, plenty())
				row := chain(t, h, n)
				other := node(t, h, 0)
				root(t, h, 0, row[0])
				root(t, h, 1, other)
				put(t, h, row[from], 1, 77)
				start(t, h)
				work(h, pieces)
				// The rest of the chain hangs at the object other, and at the chain's beginning alone.
				put(t, h, other, 0, uint64(row[from]))
				put(t, h, row[from-1], 0, 0)
				put(t, h, row[to], 0, 0)
				finish(t, h)
				has(t, h, true, row[:to+1]...)
				has(t, h, true, row[from:]...)
				get(t, h, row[from], 1, 77)
				get(t, h, other, 0, uint64(row[from]))
				cycled(t, h)
				has(t, h, true, row[:to+1]...)
				has(t, h, true, row[from:]...)
				has(t, h, false, row[to+1:from]...)
			}
		}
	}
}

func TestWhatIsHeldByTurnsIsKept(t *testing.T) {
	for first := range 6 {
		for then := range 6 {
			h := made(t, plenty())
			a, b := node(t, h, 0), node(t, h, 0)
			p := node(t, h, node(t, h))
			root(t, h, 0, a)
			root(t, h, 1, b)
			put(t, h, a, 0, uint64(p))
			start(t, h)
			work(h, first)
			put(t, h, b, 0, uint64(p))
			put(t, h, a, 0, 0)
			work(h, then)
			root(t, h, 2, p)
			put(t, h, b, 0, 0)
			work(h, 1)
			put(t, h, a, 0, uint64(p))
			root(t, h, 2, 0)
			finish(t, h)
			has(t, h, true, p)
			get(t, h, a, 0, uint64(p))
			q, _ := h.Get(p, 0)
			has(t, h, true, int(q))
		}
	}
}

func TestWhatIsMadeInACycleIsKeptByIt(t *testing.T) {
	for pieces := range 16 {
		h := made(t, plenty())
		root(t, h, 0, chain(t, h, 3)[0])
		chain(t, h, 3)
		start(t, h)
		work(h, pieces)
		fresh := chain(t, h, 4)
		finish(t, h)
		has(t, h, true, fresh...)
		objects(t, h, 7, 14)
		cycled(t, h)
		has(t, h, false, fresh...)
		objects(t, h, 3, 6)
	}
}

func TestWhatIsMadeInACycleKeepsWhatItLeadsTo(t *testing.T) {
	for pieces := range 12 {
		h := made(t, plenty())
		row := chain(t, h, 4)
		root(t, h, 0, row[0])
		start(t, h)
		work(h, pieces)
		fresh := node(t, h, row[2])
		root(t, h, 1, fresh)
		put(t, h, row[1], 0, 0)
		finish(t, h)
		has(t, h, true, row...)
		cycled(t, h)
		has(t, h, true, row...)
		get(t, h, fresh, 0, uint64(row[2]))
	}
}

// TestWhatCanBeReachedLaterIsKept: objects that couldn't be reached when the cycle began, but can be later, in whatever phase.
func TestWhatCanBeReachedLaterIsKept(t *testing.T) {
	ways := map[string]func(t testing.TB, h *heap.Heap, held, fresh, p int){
		"root":          func(t testing.TB, h *heap.Heap, held, fresh, p int) { root(t, h, 1, p) },
		"put":           func(t testing.TB, h *heap.Heap, held, fresh, p int) { put(t, h, held, 0, uint64(p)) },
		"refs":          func(t testing.TB, h *heap.Heap, held, fresh, p int) { h.Refs(held, gives(p)) },
		"more":          func(t testing.TB, h *heap.Heap, held, fresh, p int) { h.More(gives(p)) },
		"put of fresh":  func(t testing.TB, h *heap.Heap, held, fresh, p int) { put(t, h, fresh, 0, uint64(p)) },
		"refs of fresh": func(t testing.TB, h *heap.Heap, held, fresh, p int) { h.Refs(fresh, gives(p)) },
	}
	for name, way := range ways {
		for pieces := range 20 {
			h := made(t, plenty())
			held := chain(t, h, 3)
			root(t, h, 0, held[0])
			row := chain(t, h, 5)
			for i, p := range row {
				put(t, h, p, 1, uint64(i))
			}
			start(t, h)
			fresh := node(t, h, 0)
			root(t, h, 2, fresh)
			work(h, pieces)
			if slices.ContainsFunc(row, func(p int) bool { return !h.Has(p) }) {
				continue // it is too late
			}
			way(t, h, held[0], fresh, row[0])
			p := uint64(row[0])
			for i := range row {
				if p != uint64(row[i]) {
					t.Fatalf("%s behind %d pieces: %d leads to %d", name, pieces, i-1, p)
				}
				p, _ = h.Get(int(p), 0)
			}
			for range 2 {
				finish(t, h)
				has(t, h, true, row...)
				for i, p := range row {
					get(t, h, p, 1, uint64(i))
				}
				start(t, h)
			}
		}
	}
}

// TestWhatIsFoundAgainIsSound: what is reached again in the midst of sweeping leads to objects alone, whatever was swept already.
func TestWhatIsFoundAgainIsSound(t *testing.T) {
	for pieces := range 30 {
		for at := range 8 {
			h := made(t, plenty())
			row := chain(t, h, 8)
			start(t, h)
			work(h, pieces)
			if !h.Has(row[at]) {
				continue
			}
			root(t, h, 0, row[at])
			finish(t, h)
			n := 0
			for p := row[at]; p != 0; n++ {
				has(t, h, true, p)
				w, _ := h.Get(p, 0)
				p = int(w)
			}
			if h.Stats().Phase == off && n > h.Stats().Objects {
				t.Errorf("behind %d pieces %d objects can be reached of %d", pieces, n, h.Stats().Objects)
			}
			cycled(t, h)
			objects(t, h, n, uint64(2*n))
		}
	}
}

// TestPointersOfWhatIsSweptLeadToObjects: while a cycle sweeps, what it hasn't freed yet leads to objects, or to none.
func TestPointersOfWhatIsSweptLeadToObjects(t *testing.T) {
	h := made(t, plenty())
	row := web(t, h, 10)
	slices.Reverse(row)
	start(t, h)
	for more := true; more; more = h.Work() {
		for _, p := range row {
			for i := range h.Len(p) {
				if w, _ := h.Get(p, i); w != 0 && i < 10 && !h.Has(int(w)) {
					t.Fatalf("the word %d of %d leads to %d", i, p, w)
				}
			}
		}
	}
	has(t, h, false, row...)
}

// TestWhatCantBeReachedKeepsNothing: neither what is written into objects that can't be reached, nor what is taken away from them, is kept.
func TestWhatCantBeReachedKeepsNothing(t *testing.T) {
	for pieces := range 4 {
		h := made(t, plenty())
		root(t, h, 0, chain(t, h, 3)[0])
		a, b, c := chain(t, h, 4), chain(t, h, 4), chain(t, h, 4)
		h.Refs(c[0], gives(a[2], b[2]))
		start(t, h)
		work(h, pieces)
		put(t, h, a[0], 0, uint64(b[0]))
		put(t, h, a[1], 0, 0)
		put(t, h, b[0], 0, uint64(b[3]))
		put(t, h, b[0], 0, uint64(a[1]))
		h.Refs(c[0], gives(c[1]))
		finish(t, h)
		has(t, h, false, a...)
		has(t, h, false, b...)
		has(t, h, false, c...)
		objects(t, h, 3, 6)
	}
}

func TestFullWithNoneUnderWay(t *testing.T) {
	h := made(t, plenty())
	row := tree(t, h, 20)
	root(t, h, 0, row[0])
	gone := tree(t, h, 20)
	for n := range 3 {
		h.Full()
		if s := h.Stats(); s.Phase != off || s.Cycles != n+1 {
			t.Errorf("behind Full: %+v", s)
		}
		has(t, h, true, row...)
		has(t, h, false, gone...)
	}
}

func TestFullWithACycleUnderWay(t *testing.T) {
	for pieces := range 60 {
		h := made(t, plenty())
		row := tree(t, h, 10)
		root(t, h, 0, row[0])
		tree(t, h, 10)
		start(t, h)
		work(h, pieces)
		before := h.Stats()
		fresh := tree(t, h, 10)
		put(t, h, row[0], 0, 0)
		h.Full()
		cycles := before.Cycles + 1
		if before.Phase != off {
			cycles++
		}
		if s := h.Stats(); s.Phase != off || s.Cycles != cycles {
			t.Errorf("Full behind %d pieces: %+v, want %d cycles", pieces, s, cycles)
		}
		// The cycle under way keeps what is made and what is cut off; the whole one behind it keeps neither.
		has(t, h, false, fresh...)
		has(t, h, false, row[1])
		has(t, h, true, row[0], row[2])
		objects(t, h, 4, 12)
	}
}

func TestFullLetsGoWhatProcessorsHold(t *testing.T) {
	const procs, pages = 4, 16
	for _, n := range []int{1, 7, 40, 64} {
		h := made(t, api.Config{Procs: procs, Pages: pages, Gogc: -1})
		for p := range procs {
			allocFor(t, h, p, plain(n))
		}
		cycled(t, h)
		if _, e := h.Pages(pages); e != api.OK { // it makes a Full
			t.Errorf("behind objects of %d words: %d", n, e)
		}
		h = made(t, api.Config{Procs: procs, Pages: pages, Gogc: -1})
		for p := range procs {
			allocFor(t, h, p, plain(n))
		}
		mapped := h.Stats().Mapped
		cycled(t, h)
		if got := h.Scavenge(pages); got != 0 {
			t.Errorf("behind a cycle %d pages are free that processors hold", got)
		}
		h.Full()
		if got := h.Scavenge(pages); got != mapped {
			t.Errorf("behind Full %d pages are free, want %d", got, mapped)
		}
	}
}

func TestShadeAndWorkOutsideOfMarking(t *testing.T) {
	h := made(t, plenty())
	row := chain(t, h, 5)
	for _, p := range append(noPointers(), 0) {
		h.Shade(p)
	}
	for _, p := range row {
		h.Shade(p)
	}
	start(t, h)
	for _, p := range append(noPointers(), 0) {
		h.Shade(p)
	}
	until(t, h, sweeping)
	for _, p := range append(row, 0, -1, 12345) {
		h.Shade(p)
	}
	finish(t, h)
	has(t, h, false, row...)
	for _, p := range row {
		h.Shade(p)
	}
	objects(t, h, 0, 0)
	if h.Work() {
		t.Error("Shade has begun a cycle")
	}
}

func TestTheSameCallsAnswerTheSame(t *testing.T) {
	told := func() []string {
		var list []string
		h := made(t, api.Config{Procs: 2, Pages: 300, Gogc: 50})
		var row []int
		for n := range 3000 {
			p, e := h.Alloc(n%2, append(leading(n%5), plain(n%70+1)...))
			list = append(list, fmt.Sprint(p, e))
			if n%3 == 0 {
				row = append(row, p)
				h.Root(n%16, p)
			}
			if q := row[n/7%len(row)]; h.Has(q) && h.Len(q) > 1 && h.Len(p) > 1 {
				h.Put(q, 0, uint64(p))
				h.Refs(q, gives(row[len(row)/2:]...))
				h.Root(n%16, q)
			}
			if n%11 == 0 {
				h.Work()
			}
			if n%500 == 0 {
				h.Start()
			}
			list = append(list, fmt.Sprintf("%+v", h.Stats()))
		}
		return list
	}
	first := told()
	for range 5 {
		if got := told(); !slices.Equal(got, first) {
			for i := range got {
				if got[i] != first[i] {
					t.Fatalf("the answer %d is %s, and was %s", i, got[i], first[i])
				}
			}
		}
	}
}
