package heap_test

import (
	"iter"
	"math"
	"slices"
	"testing"

	"treadle/api"
	"treadle/heap"
)

const (
	off = iota
	marking
	sweeping
)

// noGoal is the goal of a heap that has none of its own.
const noGoal = uint64(math.MaxUint64)

// plenty is a configuration with all pages, where no cycle begins by itself.
func plenty() api.Config {
	return api.Config{Procs: 1, Pages: api.MaxPages, Gogc: -1}
}

// made is a heap.
func made(t testing.TB, c api.Config) *heap.Heap {
	t.Helper()
	h, e := heap.New(c)
	if h == nil || e != api.OK {
		t.Fatalf("New(%v): %v, %d", c, h, e)
	}
	return h
}

// shape is one that is written as a text: p is a pointer, any other letter isn't.
func shape(text string) []bool {
	list := make([]bool, len(text))
	for i := range text {
		list[i] = text[i] == 'p'
	}
	return list
}

// plain is a shape of so many words without pointers, leading one of so many pointers.
func plain(n int) []bool   { return make([]bool, n) }
func leading(n int) []bool { return slices.Repeat([]bool{true}, n) }

// want fails the test if a call's error is another one.
func want(t testing.TB, call string, got, e api.Errno) {
	t.Helper()
	if got != e {
		t.Errorf("%s: %d, want %d", call, got, e)
	}
}

// alloc makes an object for the processor 0; it must be made.
func alloc(t testing.TB, h *heap.Heap, s []bool) int {
	t.Helper()
	return allocFor(t, h, 0, s)
}

// allocFor makes an object for a processor; it must be made, and its words be 0.
func allocFor(t testing.TB, h *heap.Heap, proc int, s []bool) int {
	t.Helper()
	p, e := h.Alloc(proc, s)
	if p < 1 || e != api.OK {
		t.Fatalf("Alloc(%d, of %d words): %d, %d", proc, len(s), p, e)
	}
	if n := h.Len(p); n != len(s) || !h.Has(p) {
		t.Errorf("Len(%d): %d, want %d", p, n, len(s))
	}
	for i := range s {
		if w, e := h.Get(p, i); w != 0 || e != api.OK {
			t.Errorf("of a new object Get(%d, %d): %d, %d", p, i, w, e)
		}
	}
	return p
}

// node makes an object with the pointers that are told, and a word behind them.
func node(t testing.TB, h *heap.Heap, to ...int) int {
	t.Helper()
	p := alloc(t, h, append(leading(len(to)), false))
	for i, q := range to {
		put(t, h, p, i, uint64(q))
	}
	return p
}

// chain makes n objects, the first of which leads to the second, and so on.
func chain(t testing.TB, h *heap.Heap, n int) []int {
	t.Helper()
	list := make([]int, n)
	next := 0
	for i := n - 1; i >= 0; i-- {
		list[i] = node(t, h, next)
		next = list[i]
	}
	return list
}

// refused fails the test if Alloc answers another error, or a pointer, or if the refused call can be told behind it.
func refused(t testing.TB, h *heap.Heap, proc int, s []bool, e api.Errno) {
	t.Helper()
	before := h.Stats()
	if p, got := h.Alloc(proc, s); p != 0 || got != e {
		t.Errorf("Alloc(%d, of %d words): %d, %d, want 0, %d", proc, len(s), p, got, e)
	}
	stats(t, h, before)
}

// put writes a word, which must be written.
func put(t testing.TB, h *heap.Heap, p, i int, w uint64) {
	t.Helper()
	if e := h.Put(p, i, w); e != api.OK {
		t.Fatalf("Put(%d, %d, %d): %d", p, i, w, e)
	}
}

// get fails the test if a word is another one.
func get(t testing.TB, h *heap.Heap, p, i int, w uint64) {
	t.Helper()
	if got, e := h.Get(p, i); got != w || e != api.OK {
		t.Errorf("Get(%d, %d): %d, %d, want %d", p, i, got, e, w)
	}
}

// getRefused fails the test if Get answers another error, or a word.
func getRefused(t testing.TB, h *heap.Heap, p, i int, e api.Errno) {
	t.Helper()
	if w, got := h.Get(p, i); w != 0 || got != e {
		t.Errorf("Get(%d, %d): %d, %d, want 0, %d", p, i, w, got, e)
	}
}

// root lets a root lead to what is told, which it must.
func root(t testing.TB, h *heap.Heap, i, p int) {
	t.Helper()
	if e := h.Root(i, p); e != api.OK {
		t.Fatalf("Root(%d, %d): %d", i, p, e)
	}
}

// has fails the test if not each of these pointers leads to an object (yes), or if one does (no).
func has(t testing.TB, h *heap.Heap, yes bool, list ...int) {
	t.Helper()
	for _, p := range list {
		if got := h.Has(p); got != yes {
			t.Errorf("Has(%d): %v", p, got)
		}
	}
}

// stats fails the test if there is something else to tell.
func stats(t testing.TB, h *heap.Heap, s api.Stats) {
	t.Helper()
	if got := h.Stats(); got != s {
		t.Errorf("Stats: %+v, want %+v", got, s)
	}
}

// objects fails the test if there are others than so many objects, of so many words.
func objects(t testing.TB, h *heap.Heap, n int, words uint64) {
	t.Helper()
	if s := h.Stats(); s.Objects != n || s.Words != words {
		t.Errorf("%d objects of %d words, want %d of %d", s.Objects, s.Words, n, words)
	}
}

// start begins a cycle, which must begin.
func start(t testing.TB, h *heap.Heap) {
	t.Helper()
	if e := h.Start(); e != api.OK {
		t.Fatalf("Start: %d", e)
	}
	if s := h.Stats(); s.Phase != marking {
		t.Fatalf("behind Start the phase is %d", s.Phase)
	}
}

// work does so many pieces, or fewer, if the cycle ends ahead of that.
func work(h *heap.Heap, n int) {
	for range n {
		h.Work()
	}
}

// until does pieces of the cycle under way until its phase is another one, and answers how many.
func until(t testing.TB, h *heap.Heap, phase int) int {
	t.Helper()
	n := 0
	for h.Stats().Phase != phase {
		if !h.Work() {
			t.Fatalf("no cycle is under way ahead of the phase %d", phase)
		}
		n++
	}
	return n
}

// finish does what is left of the cycle under way, and answers in how many pieces.
func finish(t testing.TB, h *heap.Heap) int {
	t.Helper()
	n := 0
	for h.Work() {
		n++
	}
	if s := h.Stats(); s.Phase != off {
		t.Errorf("behind the last piece the phase is %d", s.Phase)
	}
	return n
}

// cycled makes a whole cycle.
func cycled(t testing.TB, h *heap.Heap) {
	t.Helper()
	start(t, h)
	finish(t, h)
}

// list is a function that gives what stands in a list when it is asked, and stops where it is left.
func list(from *[]int) iter.Seq[int] {
	return func(yield func(int) bool) {
		for _, p := range *from {
			if !yield(p) {
				return
			}
		}
	}
}

// gives is a function that gives these pointers.
func gives(pointers ...int) iter.Seq[int] {
	return list(&pointers)
}

// noPointers are numbers that lead to no object, beside 0, as long as there is none at these places.
func noPointers() []int {
	return []int{math.MinInt, math.MinInt + 1, -api.PageWords, -2, -1, api.MaxPages*api.PageWords - 1, api.MaxPages * api.PageWords, api.MaxPages*api.PageWords + 1, math.MaxInt - 1, math.MaxInt}
}
