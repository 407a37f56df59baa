package ideal_test

import (
	"math"
	"slices"
	"testing"

	"treadle/api"
	"treadle/draft"
	"treadle/ideal"
)

const (
	num = draft.Num
	flt = draft.Flt
	ref = draft.Ref

	least    = draft.Least
	greatest = draft.Greatest
	forEver  = draft.Greatest

	theNaN = uint64(0x7ff8000000000001)
)

// The types and the globals of the tests' programs.
const (
	box   = draft.Box
	node  = draft.Node
	nums  = draft.Nums
	nodes = draft.Nodes
	flts  = draft.Flts
	lines = draft.Lines
	ring  = draft.Ring
	link  = draft.Link

	gNum      = draft.GNum
	gFlt      = draft.GFlt
	gNode     = draft.GNode
	gNodes    = draft.GNodes
	gLine     = draft.GLine
	gNodeLine = draft.GNodeLine
)

// What the tests' programs are written with.
var (
	ptr      = draft.Ptr
	line     = draft.Line
	kinds    = draft.Kinds
	program  = draft.Program
	fun      = draft.Fun
	gives    = draft.Gives
	do       = draft.Do
	cons     = draft.Const
	bits     = draft.Bits
	makeLine = draft.MakeLine
	with     = draft.With
	ret      = draft.Ret
	sel      = draft.Select
	selOr    = draft.SelectOr
	show     = draft.Show
	stop     = draft.Stop
	body     = draft.Body
	the      = draft.The
	times    = draft.Times
)

// The events that are wanted.
var (
	event  = draft.Event
	prints = draft.Prints
	then   = draft.Then
	exits  = draft.Exits
	panics = draft.Panics
)

// run is a run, and the test that fails if it does what it mustn't.
type run struct {
	t testing.TB
	*ideal.Ideal
}

// begin is a run of a program.
func begin(t testing.TB, p api.Program) run {
	t.Helper()
	d, fault := ideal.New(p)
	if d == nil || fault != (api.Fault{}) {
		t.Fatalf("New: %v, %v", d, fault)
	}
	return run{t, d}
}

// step is a step with a choice; it must be right.
func (r run) step(g int, choice uint64) {
	r.t.Helper()
	if e := r.Step(g, choice); e != api.OK {
		r.t.Fatalf("Step(%d, %d): %d, behind %v", g, choice, e, r.Trace())
	}
}

// steps are so many steps of a goroutine.
func (r run) steps(g, n int) {
	r.t.Helper()
	for range n {
		r.step(g, 0)
	}
}

// tick lets the clock go on.
func (r run) tick(n uint64) {
	r.t.Helper()
	if e := r.Tick(n); e != api.OK {
		r.t.Fatalf("Tick(%d): %d", n, e)
	}
}

// finish lets goroutines go on, the one with the least number first, till the run has ended or nobody is ready.
func (r run) finish() {
	r.t.Helper()
	for range 100000 {
		g := 0
		for r.State(g) != api.GReady {
			if g++; g > r.Gs() {
				return
			}
		}
		if r.Ended() {
			return
		}
		r.step(g, 0)
	}
	r.t.Fatalf("the run doesn't end: %v", r.Trace())
}

// shows fails the test if other events were seen.
func (r run) shows(want []api.Event) {
	r.t.Helper()
	if got := r.Trace(); !slices.Equal(got, want) {
		r.t.Errorf("Trace: %v, want %v", got, want)
	}
	ended := false
	for _, e := range want {
		ended = ended || e.Kind != api.EvPrint && e.Kind != api.EvFloat
	}
	if r.Ended() != ended {
		r.t.Errorf("Ended: %v behind %v", r.Ended(), want)
	}
}

// states fails the test if the goroutines have other states, or there are more of them.
func (r run) states(want ...int) {
	r.t.Helper()
	if r.Gs() != len(want) {
		r.t.Errorf("Gs: %d, want %d", r.Gs(), len(want))
	}
	for g, state := range append(slices.Clone(want), api.GNone) {
		if got := r.State(g); got != state {
			r.t.Errorf("State(%d): %d, want %d", g, got, state)
		}
	}
}

// frames fails the test if the goroutines have other numbers of frames.
func (r run) frames(want ...int) {
	r.t.Helper()
	for g, n := range want {
		if got := r.Frames(g); got != n {
			r.t.Errorf("Frames(%d): %d, want %d", g, got, n)
		}
	}
}

// same tells whether two instructions are the same.
func same(x, y api.Ins) bool {
	lists := slices.Equal(x.List, y.List)
	return lists && x.Op == y.Op && x.A == y.A && x.B == y.B && x.C == y.C && x.Imm == y.Imm
}

// next fails the test if a goroutine has another next instruction.
func (r run) next(g int, want api.Ins) {
	r.t.Helper()
	if got, ok := r.Next(g); !ok || !same(got, want) {
		r.t.Errorf("Next(%d): %v, %v, want %v", g, got, ok, want)
	}
}

// noNext fails the test if a goroutine has a next instruction.
func (r run) noNext(list ...int) {
	r.t.Helper()
	for _, g := range list {
		if got, ok := r.Next(g); ok || !same(got, api.Ins{}) {
			r.t.Errorf("Next(%d): %v, %v, want none", g, got, ok)
		}
	}
}

// reach fails the test if other things can be reached.
func (r run) reach(things int, words uint64) {
	r.t.Helper()
	if n, w := r.Reach(); n != things || w != words {
		r.t.Errorf("Reach: %d, %d, want %d, %d", n, w, things, words)
	}
}

// refuses fails the test if a step is answered otherwise, or changes something.
func (r run) refuses(g int, want api.Errno) {
	r.t.Helper()
	before := seen(r.Ideal)
	for _, choice := range []uint64{0, 1, math.MaxUint64} {
		if e := r.Step(g, choice); e != want {
			r.t.Errorf("Step(%d, %d): %d, want %d", g, choice, e, want)
		}
	}
	if !slices.Equal(before, seen(r.Ideal)) {
		r.t.Errorf("a refused Step(%d) changes something", g)
	}
}

// seen is what a run tells of its goroutines and its end, as numbers.
func seen(d *ideal.Ideal) []int {
	things, words := d.Reach()
	all := []int{things, int(words), d.Gs(), int(truth(d.Ended())), len(d.Trace())}
	for g := range d.Gs() {
		ins, ok := d.Next(g)
		all = append(all, d.State(g), d.Frames(g), int(truth(ok)), ins.Op, ins.A, ins.B, ins.C)
	}
	return all
}

// truth is a truth as an int.
func truth(is bool) uint64 {
	if is {
		return 1
	}
	return 0
}

// outcome is what is seen of a program of one function with these slots, to its end, or till it waits.
func outcome(t testing.TB, slots []api.Kind, code ...api.Ins) []api.Event {
	t.Helper()
	return outcomeOf(t, program(fun(0, slots, code...)))
}

// outcomeOf is what is seen of a program, whose goroutines go on, the one with the least number first.
func outcomeOf(t testing.TB, p api.Program) []api.Event {
	t.Helper()
	r := begin(t, p)
	r.finish()
	return r.Trace()
}

// expect fails the test if other events were seen.
func expect(t testing.TB, what string, got, want []api.Event) {
	t.Helper()
	if !slices.Equal(got, want) {
		t.Errorf("%s: %v, want %v", what, got, want)
	}
}
