package machine_test

import (
	"math/rand"
	"slices"
	"testing"

	"treadle/api"
	"treadle/draft"
)

// ints are so many slots that are ints.
func ints(n int) []api.Kind { return slices.Repeat(kinds(num), n) }

// Frames that fill the first words, and one word more: slots of each frame are what they were.
func TestFramesThatFillTheFirstWords(t *testing.T) {
	for _, second := range []int{1, 2, 30, 31, 32} {
		for _, third := range []int{0, 1, 2, 3, 31, 32} {
			// Each frame writes its first and its last slot, and prints them behind the call that it makes.
			last := func(n int) int { return max(n-1, 0) }
			p := program(
				fun(0, ints(32), cons(0, 10), cons(31, 11), with(api.OpCall, 1), show(0), show(31), ret()),
				fun(0, ints(second), cons(0, 20), cons(last(second), 21), with(api.OpCall, 2), show(0), show(last(second)), ret()),
				fun(0, ints(max(third, 1)), cons(0, 30), cons(last(third), 31), show(0), show(last(third)), ret()))
			if third == 0 {
				p.Funcs[2] = fun(0, nil, ret())
			}
			var want []int
			for _, x := range [][2]int{{third, 30}, {second, 20}, {32, 10}} {
				switch x[0] {
				case 0:
				case 1:
					want = append(want, x[1]+1, x[1]+1)
				default:
					want = append(want, x[1], x[1]+1)
				}
			}
			for _, pages := range []int{7, api.MaxPages} {
				r := newRig(t, api.Config{Procs: 1, Pages: pages, Gogc: 100}, p)
				if got := r.finish(100); !r.memory && !slices.Equal(got, exits(want...)) {
					t.Errorf("frames of 32, %d and %d slots: %v, want %v", second, third, got, exits(want...))
				}
				// A word for each slot: when there are more than StackMin, the stack was copied.
				if got := r.m.Stats().StackMove; !r.memory && 32+second+third > api.StackMin && got < 1 {
					t.Errorf("frames of 32, %d and %d slots: the stack wasn't copied", second, third)
				}
			}
		}
	}
}

// So many frames of 32 slots need stacks of so many words: each time there are too few, they are copied into twice as many.
func TestDeepFramesAreCopied(t *testing.T) {
	for frames, copies := range map[int]int{3: 1, 4: 1, 5: 2, 8: 2, 9: 3, 16: 3, 17: 4, 32: 4, 33: 5, api.MaxDepth: 5} {
		m := begin(t, wide(1), descends(frames))
		for range 4 * frames {
			m.Do(step(0, 0))
		}
		if got, most := m.Stats().StackMove, 2*len(m.Moves())+2; got < copies || got > most {
			t.Errorf("%d frames: copied %d times, want at least %d and at most %d", frames, got, copies, most)
		}
	}
}

// However often frames come and go where a stack is full, it is copied no more often than the moves allow.
func TestStackMoveIsBounded(t *testing.T) {
	for _, frames := range []int{1, 2, 3, 4, 5, 8, 9, 17, 33, api.MaxDepth} {
		for procs := 1; procs <= 2; procs++ {
			r := newRig(t, wide(procs), descends(max(frames, 2)))
			for n := range 700 {
				r.do(step(n, 0))
			}
		}
	}
	// A panic takes all frames away at once, again and again.
	p := program(
		fun(0, ints(32), cons(0, api.MaxDepth-3), with(api.OpCall, 1, 0), do(api.OpJump, 0)),
		fun(1, ints(32), with(api.OpDefer, 3), with(api.OpCall, 2, 0), ret()),
		fun(1, ints(32), cons(1, 1), do(api.OpSub, 0, 0, 1), do(api.OpJumpZ, 0, 5), with(api.OpCall, 2, 0), ret(), do(api.OpPanic, 0)),
		fun(0, ints(32), do(api.OpRecover, 0, 1), ret()))
	r := newRig(t, wide(1), p)
	for range 3000 {
		r.do(step(0, 0))
	}
	if r.m.Ended() {
		t.Errorf("Trace: %v", r.m.Trace())
	}
}

// The slots of frames below are what they were behind each copy, however deep the calls go, and whatever is collected meanwhile.
func TestSlotsBehindCopies(t *testing.T) {
	for _, s := range draft.Samples() {
		if s.Name != "deep calls" {
			continue
		}
		for seed := range int64(6) {
			choose := draft.Chooser(rand.New(rand.NewSource(seed)).Intn)
			x := newLight(t, api.Config{Procs: 1 + choose(3), Pages: 200 + choose(2000), Gogc: draft.Of(choose, -1, 0, 100)}, s.Program)
			x.run(choose, 100000)
			if got := x.m.Trace(); !slices.Equal(got, s.Events) {
				t.Errorf("%v, want %v", got, s.Events)
			}
		}
	}
}

// Of several goroutines each has a stack of its own, which grows by itself.
func TestStacksOfSeveralGoroutines(t *testing.T) {
	const goroutines = 6
	// Each goes down as deep as its number tells, eight times that, yields everywhere, and sends what it has added up on its way back.
	p := program(
		fun(0, kinds(line(num), num, num, num, num),
			makeLine(0, 0), cons(1, goroutines), cons(2, 1), with(api.OpGo, 1, 0, 1), do(api.OpSub, 1, 1, 2), do(api.OpJumpZ, 1, 7), do(api.OpJump, 3),
			cons(1, goroutines), do(api.OpRecv, 3, 0, 4), with(api.OpCall, 3, 3, 4), do(api.OpSub, 1, 1, 2), do(api.OpJumpZ, 1, 13), do(api.OpJump, 8), do(api.OpGet, 3, gNum), show(3), ret()),
		fun(2, append(kinds(line(num), num, num, num), ints(20)...), cons(2, 8), do(api.OpMul, 1, 1, 2), with(api.OpCall, 2, 1, 3), do(api.OpSend, 0, 3), ret()),
		gives(1, ints(32), kinds(num), do(api.OpJumpZ, 0, 8), cons(1, 1), do(api.OpSub, 31, 0, 1), do(api.OpYield), with(api.OpCall, 2, 31, 30), do(api.OpYield), do(api.OpAdd, 30, 30, 0), ret(30), ret(0)),
		fun(2, kinds(num, num, num), do(api.OpGet, 2, gNum), do(api.OpAdd, 2, 2, 0), do(api.OpSet, gNum, 2), ret()))
	want := 0
	for g := 1; g <= goroutines; g++ {
		want += 8 * g * (8*g + 1) / 2
	}
	for seed := range int64(8) {
		choose := draft.Chooser(rand.New(rand.NewSource(seed)).Intn)
		x := newLight(t, api.Config{Procs: 1 + int(seed)%4, Pages: api.MaxPages, Gogc: 100}, p)
		x.run(choose, 200000)
		if got := x.m.Trace(); !slices.Equal(got, exits(want)) {
			t.Errorf("%v, want %d", got, want)
		}
	}
}

// What is reached by an object, a channel, a global or a call that was put off is one thing, ahead of a copy as behind it.
func TestPointersBehindCopies(t *testing.T) {
	p := program(
		fun(0, append(kinds(ptr(node), ptr(node), line(ptr(node)), num, num, ptr(nodes), ptr(node)), ints(20)...),
			do(api.OpNew, 0, node), do(api.OpNew, 1, node), do(api.OpStore, 1, 0, 2), do(api.OpSet, gNode, 0), makeLine(2, 1), do(api.OpSend, 2, 0), cons(3, 1), do(api.OpNewArr, 5, nodes, 3), cons(3, 0), do(api.OpStoreX, 5, 0, 3),
			with(api.OpDefer, 2, 0, 3), cons(4, 40), with(api.OpCall, 1, 4, 1, 2, 5),
			do(api.OpLoad, 4, 0, 0), show(4), do(api.OpLoad, 6, 1, 2), do(api.OpPEq, 4, 0, 6), show(4), do(api.OpGet, 6, gNode), do(api.OpPEq, 4, 0, 6), show(4), do(api.OpRecv, 6, 2, 3), do(api.OpPEq, 4, 0, 6), show(4), cons(3, 0), do(api.OpLoadX, 6, 5, 3), do(api.OpPEq, 4, 0, 6), show(4), ret()),
		// At the bottom it writes into the object, by each of the ways.
		fun(4, append(kinds(num, ptr(node), line(ptr(node)), ptr(nodes), ptr(node), num, num), ints(25)...),
			cons(5, 1), do(api.OpSub, 0, 0, 5), do(api.OpJumpZ, 0, 5), with(api.OpCall, 1, 0, 1, 2, 3), ret(),
			do(api.OpLoad, 4, 1, 2), with(api.OpCall, 3, 4), do(api.OpGet, 4, gNode), with(api.OpCall, 3, 4), do(api.OpRecv, 4, 2, 6), with(api.OpCall, 3, 4), do(api.OpSend, 2, 4), cons(6, 0), do(api.OpLoadX, 4, 3, 6), with(api.OpCall, 3, 4), ret()),
		fun(2, append(kinds(ptr(node), num, num), ints(20)...), do(api.OpLoad, 2, 0, 0), show(2), ret()),
		fun(1, append(kinds(ptr(node), num, num, ptr(node)), ints(20)...), do(api.OpNew, 3, node), do(api.OpLoad, 1, 0, 0), cons(2, 1), do(api.OpAdd, 1, 1, 2), do(api.OpStore, 0, 1, 0), ret()))
	shows(t, "pointers", p, exits(4, 1, 1, 1, 1, 4))
}
