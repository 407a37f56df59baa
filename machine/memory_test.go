package machine_test

import (
	"math/rand"
	"runtime"
	"slices"
	"testing"

	"treadle/api"
	"treadle/draft"
	"treadle/ideal"
	"treadle/machine"
)

// keeps is a function 0 that makes nodes for ever, each of which leads to the one before.
func keeps() api.Func {
	return fun(0, kinds(ptr(node), ptr(node)), do(api.OpNew, 1, node), do(api.OpStore, 1, 0, 2), do(api.OpMove, 0, 1), do(api.OpJump, 0))
}

// loose is a function 0 that does something for ever, in its slots: an int, which is n, an array of ints, a node, and a channel.
func loose(n int, code ...api.Ins) api.Func {
	return fun(0, kinds(num, ptr(nums), ptr(node), line(num)), body(the(cons(0, n)), code, the(do(api.OpJump, 1)))...)
}

// descends is a program that calls down through so many frames of all slots, again and again.
func descends(frames int) api.Program {
	slots := slices.Repeat(kinds(num), api.MaxSlots)
	return program(
		fun(0, slots, cons(0, frames-1), with(api.OpCall, 1, 0), do(api.OpJump, 0)),
		fun(1, slots, cons(1, 1), do(api.OpSub, 0, 0, 1), do(api.OpJumpZ, 0, 4), with(api.OpCall, 1, 0), ret()))
}

// lastOf is whose the last move is; ahead of all moves the goroutine 0 goes on.
func lastOf(moves []api.Move) int {
	if len(moves) == 0 {
		return 0
	}
	return moves[len(moves)-1].G
}

// replayed fails the test if a machine's trace isn't that of layer 18 under its moves; or, if memory has ended, under those ahead of the last one.
func replayed(t *testing.T, m *machine.Machine, p api.Program) {
	t.Helper()
	d, _ := ideal.New(p)
	trace, moves := m.Trace(), m.Moves()
	memory := len(trace) > 0 && trace[len(trace)-1].Kind == api.EvMemory
	for i, move := range moves {
		if memory && i == len(moves)-1 {
			break
		}
		if e := take(d, move); e != api.OK {
			t.Fatalf("the move %d, %v: %d", i, move, e)
		}
	}
	want := d.Trace()
	if memory {
		want = then(want, api.EvMemory, lastOf(moves), 0)
	}
	if !slices.Equal(trace, want) || m.Ended() != (memory || d.Ended()) {
		t.Errorf("Trace: %v, %v, want %v", trace, m.Ended(), want)
	}
}

// endsByMemory fails the test if a run doesn't end by memory, within so many steps of the processors in turn.
func endsByMemory(t *testing.T, c api.Config, p api.Program, most int) *machine.Machine {
	t.Helper()
	m := begin(t, c, p)
	n := 0
	for n < most && m.Do(step(n, 0)) {
		n++
	}
	trace := m.Trace()
	if len(trace) == 0 || trace[len(trace)-1].Kind != api.EvMemory || !m.Ended() {
		t.Errorf("%v: behind %d steps: %v, %v", c, n, trace, m.Ended())
		return m
	}
	replayed(t, m, p)
	stats, moves := m.Stats(), m.Moves()
	for kind := range api.EnScav + 1 {
		if m.Do(entry(kind, 0, 0)) || m.Stats() != stats || len(m.Moves()) != len(moves) || len(m.Trace()) != len(trace) {
			t.Errorf("%v: Do of the kind %d behind the end", c, kind)
		}
	}
	return m
}

func TestAListThatIsKeptEndsByMemory(t *testing.T) {
	for _, pages := range []int{1, 2, 3, 10, 100, api.MaxPages} {
		for _, gogc := range []int{-1, 100, 1000} {
			for procs := 1; procs <= api.MaxProcs; procs += 7 {
				c := api.Config{Procs: procs, Pages: pages, Gogc: gogc}
				m := endsByMemory(t, c, program(keeps()), 400000*procs)
				// All but a few pages are full of nodes: each takes no more than a tenth of a page.
				if least := uint64(5 * 10 * (pages - 100)); pages > 100 && m.Stats().Words < least {
					t.Errorf("%v: %v, want at least %d words", c, m.Stats(), least)
				}
			}
		}
	}
}

// The events ahead of the end by memory are shown; the move at which memory has ended is the last one.
func TestTheTraceAheadOfTheEndByMemory(t *testing.T) {
	p := program(fun(0, kinds(ptr(node), ptr(node), num, num),
		cons(3, 1), do(api.OpNew, 1, node), do(api.OpStore, 1, 0, 2), do(api.OpMove, 0, 1), show(2), do(api.OpAdd, 2, 2, 3), do(api.OpJump, 1)))
	shown := 0
	for pages := 1; pages <= 20; pages++ {
		m := endsByMemory(t, api.Config{Procs: 1, Pages: pages, Gogc: -1}, p, 10000)
		// Six moves a turn, the first one, and the one at which memory has ended.
		n := len(m.Trace()) - 1
		if moves := len(m.Moves()); moves != 2+6*n {
			t.Errorf("%d pages: %v, %d moves", pages, m.Trace(), moves)
		}
		shown = max(shown, n)
	}
	// A page has room for six at least.
	if shown < 60 {
		t.Errorf("only %d were shown", shown)
	}
}

func TestEachThatNeedsMemoryEndsTheRun(t *testing.T) {
	slots := slices.Repeat(kinds(num), api.MaxSlots)
	wide := func(code ...api.Ins) api.Func { return fun(0, slots, code...) }
	array := program(fun(0, kinds(num, ptr(nums)), cons(0, api.MaxWords-1), do(api.OpNewArr, 1, nums, 0), do(api.OpJump, 1)))
	lines := program(fun(0, kinds(line(ptr(ring)), ptr(ring), line(ptr(ring)), num),
		makeLine(0, api.MaxCap), do(api.OpNew, 1, ring), do(api.OpStore, 1, 2, 0), do(api.OpSend, 0, 1), do(api.OpMove, 2, 0), do(api.OpJump, 0)))
	for name, p := range map[string]api.Program{
		"an array":                        array,
		"channels":                        lines,
		"deep calls":                      descends(api.MaxDepth),
		"goroutines":                      program(fun(0, nil, with(api.OpGo, 1), do(api.OpJump, 0)), fun(0, nil, do(api.OpJump, 0))),
		"a call that is begun at the end": program(wide(with(api.OpDefer, 1), ret()), wide(with(api.OpDefer, 2), ret()), wide(with(api.OpDefer, 3), ret()), wide(do(api.OpJump, 0))),
		"a call that is begun by a panic": program(wide(with(api.OpDefer, 1), do(api.OpPanic, 0)), wide(with(api.OpDefer, 2), do(api.OpPanic, 0)), wide(with(api.OpDefer, 3), do(api.OpPanic, 0)), wide(do(api.OpJump, 0))),
	} {
		for pages := 1; pages <= 2; pages++ {
			m := endsByMemory(t, api.Config{Procs: 1, Pages: pages, Gogc: 100}, p, 10000)
			// A goroutine for whose stack there is no room isn't begun.
			for g := 1; g < 70; g++ {
				if m.State(g) != api.GNone && name != "goroutines" {
					t.Errorf("%s: State(%d): %d", name, g, m.State(g))
				}
			}
		}
	}
}

// On few pages a run is that of layer 18, or ends by memory.
func TestFewPages(t *testing.T) {
	ended := 0
	for i, s := range draft.Samples() {
		if len(s.Events) > 1000 {
			continue
		}
		for pages := 1; pages <= 5; pages++ {
			r := newRig(t, api.Config{Procs: 1 + i%3, Pages: pages, Gogc: 100}, s.Program)
			got := r.finish(3000)
			if r.memory {
				ended++
			} else if !slices.Equal(got, s.Events) {
				t.Errorf("%s: %d pages: %v, want %v", s.Name, pages, got, s.Events)
			}
		}
	}
	if ended < 100 {
		t.Errorf("memory has ended %d times", ended)
	}
}

func TestWhatIsNotKeptNeverEndsMemory(t *testing.T) {
	const steps = 60000
	for name, p := range map[string]api.Program{
		"objects":         program(loose(0, do(api.OpNew, 2, node))),
		"greatest arrays": program(loose(api.MaxWords-1, do(api.OpNewArr, 1, nums, 0))),
		"empty arrays":    program(loose(0, do(api.OpNewArr, 1, nums, 0))),
		"channels":        program(loose(0, makeLine(3, api.MaxCap))),
		"loops":           program(loose(0, do(api.OpNew, 2, node), do(api.OpStore, 2, 2, 2))),
		"all of them":     program(loose(100, do(api.OpNew, 2, node), makeLine(3, 1), do(api.OpNewArr, 1, nums, 0), do(api.OpStore, 2, 3, 4))),
		"deep calls":      descends(api.MaxDepth),
	} {
		for _, c := range []api.Config{wide(1), {Procs: 1, Pages: 128 * 22, Gogc: -1}, {Procs: 1, Pages: api.MaxPages, Gogc: 1000, Limit: 100}} {
			m := begin(t, c, p)
			for n := range steps {
				if !m.Do(step(0, 0)) {
					t.Errorf("%s: %v: behind %d steps: %v", name, c, n, m.Trace())
					break
				}
			}
			if s := m.Stats(); s.StackMove > 2*steps || s.Mapped > c.Pages {
				t.Errorf("%s: %v: %v", name, c, s)
			}
		}
	}
}

// mixer is a program that keeps some arrays, of lengths that it reckons, in an array of so many places: each time it makes one, it puts it in the place of another one; now and then it calls down through many frames, and begins a goroutine, up to so many, which ends at once.
func mixer(seed, places, goroutines int) api.Program {
	slots := slices.Repeat(kinds(num), api.MaxSlots)
	keeper := append(kinds(ptr(nodes), ptr(node), num, num, num, num, num, num, ptr(nums), ptr(lines), line(num)), slots[:12]...)
	p := program(
		fun(0, keeper,
			cons(2, places), do(api.OpNewArr, 9, lines, 2), cons(3, seed), cons(7, goroutines), cons(11, 1),
			// The next number, of which a length and a place are taken.
			cons(4, 6364136223846793005), do(api.OpMul, 3, 3, 4), cons(4, 1442695040888963407), do(api.OpAdd, 3, 3, 4), cons(5, 1023), cons(4, 33), do(api.OpShr, 6, 3, 4), do(api.OpAnd, 5, 6, 5),
			// Mostly it is a short one.
			cons(4, 43), do(api.OpShr, 6, 3, 4), cons(4, 7), do(api.OpAnd, 6, 6, 4), do(api.OpJumpZ, 6, 20), cons(4, 15), do(api.OpAnd, 5, 5, 4),
			do(api.OpNewArr, 8, nums, 5),
			// A channel in some place of the array, which is the one that is kept.
			cons(4, 50), do(api.OpShr, 6, 3, 4), cons(4, 4095), do(api.OpAnd, 6, 6, 4), do(api.OpMod, 6, 6, 2), makeLine(10, 16), do(api.OpStoreX, 9, 10, 6),
			cons(4, 47), do(api.OpShr, 6, 3, 4), cons(4, 15), do(api.OpAnd, 6, 6, 4), do(api.OpJumpZ, 6, 34), do(api.OpJump, 5),
			cons(4, api.MaxDepth-1), with(api.OpCall, 1, 4), do(api.OpJumpZ, 7, 5), do(api.OpSub, 7, 7, 11), with(api.OpGo, 2), do(api.OpYield), do(api.OpJump, 5)),
		fun(1, slots, cons(1, 1), do(api.OpSub, 0, 0, 1), do(api.OpJumpZ, 0, 4), with(api.OpCall, 1, 0), ret()),
		fun(0, slots, cons(0, 3), with(api.OpCall, 1, 0), ret()))
	return p
}

// Memory doesn't end within the bound: for each that can be reached, each goroutine, and more, there are 128 pages.
func TestMemoryNeverEndsWithinTheBound(t *testing.T) {
	for seed := range 12 {
		places, goroutines := 1+seed%6, seed%5
		// The array, its channels, one array and one channel that are made just now, and one more of each.
		things := 1 + places + 2
		pages := 128 * (things + 1 + goroutines + 16 + 2)
		for _, gogc := range []int{-1, 100, 5000} {
			c := api.Config{Procs: 1, Pages: pages, Gogc: gogc}
			p := mixer(seed+1, places, goroutines)
			m := begin(t, c, p)
			for n := range 40000 {
				if !m.Do(step(0, 0)) {
					t.Errorf("%v, %d: behind %d steps: %v", c, seed, n, m.Trace())
					break
				}
			}
			d, _ := ideal.New(p)
			most := 0
			for i, move := range m.Moves() {
				take(d, move)
				if i%64 == 0 {
					n, _ := d.Reach()
					most = max(most, n)
				}
			}
			if most > things || d.Gs() > goroutines+1 {
				t.Errorf("%d things are reached, and %d goroutines were begun: the bound is another one", most, d.Gs())
			}
		}
	}
}

// The walks again, on as many pages as the bound asks for, or on fewer: the rig knows the bound.
func TestWalksOnFewPages(t *testing.T) {
	ended := 0
	for seed := range int64(300) {
		choose := draft.Chooser(rand.New(rand.NewSource(1000 + seed)).Intn)
		c := config(choose)
		c.Pages = 1 + choose(16)
		r := newRig(t, c, written(choose))
		r.walk(choose, 100)
		if r.memory {
			ended++
		}
	}
	if ended < 50 || ended > 250 {
		t.Errorf("memory has ended %d times", ended)
	}
}

// Pages that hold nothing are given back: as many as are told, if there are as many.
func TestScavenge(t *testing.T) {
	// Great arrays are made, and lost.
	p := program(fun(0, kinds(num, ptr(nums), num, num), cons(0, api.MaxWords-1), cons(2, 40), cons(3, 1), do(api.OpNewArr, 1, nums, 0), do(api.OpSub, 2, 2, 3), do(api.OpJumpZ, 2, 7), do(api.OpJump, 3), do(api.OpYield), do(api.OpJump, 7)))
	for _, arg := range []uint64{0, 1, 2, 31, 62, 63, 64, 65, 127, 128, 1<<64 - 1, 1<<64 - 64} {
		r := newRig(t, api.Config{Procs: 2, Pages: api.MaxPages, Gogc: -1}, p)
		for range 200 {
			r.do(step(0, 0))
		}
		r.collect()
		r.collect()
		before := r.m.Stats()
		if before.Mapped < 500 {
			t.Fatalf("only %d pages are mapped", before.Mapped)
		}
		r.do(entry(api.EnScav, 1, arg))
		n := int(arg%64) + 1
		want := before
		want.Mapped -= n
		if got := r.m.Stats(); got != want {
			t.Errorf("EnScav of %d: %v, want %v", arg, got, want)
		}
		// What is left of them can be given back, and no more.
		for range api.MaxPages / 64 {
			r.do(entry(api.EnScav, 0, 63))
		}
		if got := r.m.Stats(); got.Mapped < 1 || got.Mapped > 40 || got.Objects != 1 {
			t.Errorf("%v", got)
		}
		last := r.m.Stats()
		r.do(entry(api.EnScav, 0, 63))
		if got := r.m.Stats(); got != last {
			t.Errorf("%v, want %v", got, last)
		}
	}
}

// heapBytes are the bytes that are held.
func heapBytes() uint64 {
	runtime.GC()
	var stats runtime.MemStats
	runtime.ReadMemStats(&stats)
	return stats.HeapAlloc
}

// What is known of things that were freed isn't kept for ever. (The moves are: a list of them grows.)
func TestWhatIsFreedIsNotKept(t *testing.T) {
	for name, p := range map[string]api.Program{
		"objects":  program(loose(0, do(api.OpNew, 2, node))),
		"channels": program(loose(0, makeLine(3, api.MaxCap), do(api.OpSend, 3, 0))),
		"arrays":   program(loose(500, do(api.OpNewArr, 1, nums, 0))),
		"calls":    program(fun(0, kinds(num), with(api.OpCall, 1), do(api.OpJump, 0)), fun(0, kinds(ptr(node)), with(api.OpDefer, 2, 0), ret()), fun(1, kinds(ptr(node)), ret())),
	} {
		m := begin(t, wide(1), p)
		var held []uint64
		const steps = 100000
		for range 4 {
			for range steps {
				m.Do(step(0, 0))
			}
			held = append(held, heapBytes())
		}
		// A list of moves that grows has room for as many again.
		if grown := int64(held[3]) - int64(held[0]); grown > 16*steps*8+4<<20 {
			t.Errorf("%s: %v bytes are held", name, held)
		}
		if m.Ended() {
			t.Errorf("%s: %v", name, m.Trace())
		}
	}
}
