package ideal_test

import (
	"math"
	"slices"
	"testing"

	"treadle/api"
	"treadle/ideal"
)

const (
	num = api.KInt
	flt = api.KFloat
	ref = api.KRef

	least    = math.MinInt
	greatest = math.MaxInt
	forEver  = math.MaxInt

	theNaN = uint64(0x7ff8000000000001)
)

// The types of the tests' programs.
const (
	box   = iota // an int
	node         // an int, a float, a pointer to a node, one to a box, and a channel of int
	nums         // an array of ints
	nodes        // an array of pointers to nodes
	flts         // an array of floats
	lines        // an array of channels of int
	ring         // a channel of pointers to rings
	link         // a pointer to a box, an int, and a float
)

// The globals of the tests' programs.
const (
	gNum = iota
	gFlt
	gNode
	gNodes
	gLine
	gNodeLine
)

func ptr(t int) api.Kind             { return api.Ptr + api.Kind(t) }
func line(of api.Kind) api.Kind      { return api.Chan + of }
func kinds(k ...api.Kind) []api.Kind { return k }

// program is a program of functions, with the tests' types and globals.
func program(funcs ...api.Func) api.Program {
	return api.Program{
		Types: []api.Type{
			box:   {Fields: kinds(num)},
			node:  {Fields: kinds(num, flt, ptr(node), ptr(box), line(num))},
			nums:  {Array: true, Fields: kinds(num)},
			nodes: {Array: true, Fields: kinds(ptr(node))},
			flts:  {Array: true, Fields: kinds(flt)},
			lines: {Array: true, Fields: kinds(line(num))},
			ring:  {Fields: kinds(line(ptr(ring)))},
			link:  {Fields: kinds(ptr(box), num, flt)},
		},
		Globals: []api.Kind{gNum: num, gFlt: flt, gNode: ptr(node), gNodes: ptr(nodes), gLine: line(num), gNodeLine: line(ptr(node))},
		Funcs:   funcs,
	}
}

// fun is a function without results, with so many parameters.
func fun(params int, slots []api.Kind, body ...api.Ins) api.Func {
	return api.Func{Params: params, Slots: slots, Code: body}
}

// gives is a function with results.
func gives(params int, slots, results []api.Kind, body ...api.Ins) api.Func {
	return api.Func{Params: params, Slots: slots, Results: results, Code: body}
}

// do is an instruction with the numbers A, B, C, as many as are given.
func do(op int, abc ...int) api.Ins {
	all := append(slices.Clone(abc), 0, 0, 0)
	return api.Ins{Op: op, A: all[0], B: all[1], C: all[2]}
}

// cons is a const of an int.
func cons(a, n int) api.Ins { return api.Ins{Op: api.OpConst, A: a, Imm: uint64(n)} }

// bits is a const of a float.
func bits(a int, w uint64) api.Ins { return api.Ins{Op: api.OpConst, A: a, Imm: w} }

// makeLine is a chan.
func makeLine(a, places int) api.Ins { return api.Ins{Op: api.OpChan, A: a, Imm: uint64(places)} }

// with is a call, a go or a defer of the function f.
func with(op, f int, slots ...int) api.Ins { return api.Ins{Op: op, A: f, List: slots} }

// ret is a ret of slots.
func ret(slots ...int) api.Ins { return api.Ins{Op: api.OpRet, List: slots} }

// sel is a select without a default, selOr one with it.
func sel(a int, threes ...int) api.Ins   { return api.Ins{Op: api.OpSelect, A: a, List: threes} }
func selOr(a int, threes ...int) api.Ins { return api.Ins{Op: api.OpSelect, A: a, B: 1, List: threes} }

// show is a print, stop an exit.
func show(a int) api.Ins { return do(api.OpPrint, a) }
func stop(a int) api.Ins { return do(api.OpExit, a) }

// body is instructions and lists of such, one behind the other.
func body(parts ...[]api.Ins) []api.Ins { return slices.Concat(parts...) }

// the is a list of instructions.
func the(list ...api.Ins) []api.Ins { return list }

// times is an instruction so many times.
func times(n int, ins ...api.Ins) []api.Ins { return slices.Repeat(ins, n) }

// event is an event with an int.
func event(kind, g, n int) api.Event { return api.Event{Kind: kind, G: g, Value: uint64(n)} }

// prints are events of a goroutine that prints these.
func prints(g int, list ...int) []api.Event {
	var events []api.Event
	for _, n := range list {
		events = append(events, event(api.EvPrint, g, n))
	}
	return events
}

// then are events, and one more.
func then(events []api.Event, kind, g, n int) []api.Event {
	return append(slices.Clone(events), event(kind, g, n))
}

// run is a run, and the test that fails if it does what it mustn't.
type run struct {
	t testing.TB
	*ideal.Ideal
}

// begin is a run of a program.
func begin(t testing.TB, p api.Program) run {
	t.Helper()
	d, fault := ideal.New(p)
	if d == nil || fault != (api.Fault{}) {
		t.Fatalf("New: %v, %v", d, fault)
	}
	return run{t, d}
}

// step is a step with a choice; it must be right.
func (r run) step(g int, choice uint64) {
	r.t.Helper()
	if e := r.Step(g, choice); e != api.OK {
		r.t.Fatalf("Step(%d, %d): %d, behind %v", g, choice, e, r.Trace())
	}
}

// steps are so many steps of a goroutine.
func (r run) steps(g, n int) {
	r.t.Helper()
	for range n {
		r.step(g, 0)
	}
}

// tick lets the clock go on.
func (r run) tick(n uint64) {
	r.t.Helper()
	if e := r.Tick(n); e != api.OK {
		r.t.Fatalf("Tick(%d): %d", n, e)
	}
}

// finish lets goroutines go on, the one with the least number first, till the run has ended or nobody is ready.
func (r run) finish() {
	r.t.Helper()
	for range 100000 {
		g := 0
		for r.State(g) != api.GReady {
			if g++; g > r.Gs() {
				return
			}
		}
		if r.Ended() {
			return
		}
		r.step(g, 0)
	}
	r.t.Fatalf("the run doesn't end: %v", r.Trace())
}

// shows fails the test if other events were seen.
func (r run) shows(want []api.Event) {
	r.t.Helper()
	if got := r.Trace(); !slices.Equal(got, want) {
		r.t.Errorf("Trace: %v, want %v", got, want)
	}
	ended := false
	for _, e := range want {
		ended = ended || e.Kind != api.EvPrint && e.Kind != api.EvFloat
	}
	if r.Ended() != ended {
		r.t.Errorf("Ended: %v behind %v", r.Ended(), want)
	}
}

// states fails the test if the goroutines have other states, or there are more of them.
func (r run) states(want ...int) {
	r.t.Helper()
	if r.Gs() != len(want) {
		r.t.Errorf("Gs: %d, want %d", r.Gs(), len(want))
	}
	for g, state := range append(slices.Clone(want), api.GNone) {
		if got := r.State(g); got != state {
			r.t.Errorf("State(%d): %d, want %d", g, got, state)
		}
	}
}

// frames fails the test if the goroutines have other numbers of frames.
func (r run) frames(want ...int) {
	r.t.Helper()
	for g, n := range want {
		if got := r.Frames(g); got != n {
			r.t.Errorf("Frames(%d): %d, want %d", g, got, n)
		}
	}
}

// same tells whether two instructions are the same.
func same(x, y api.Ins) bool {
	lists := slices.Equal(x.List, y.List)
	return lists && x.Op == y.Op && x.A == y.A && x.B == y.B && x.C == y.C && x.Imm == y.Imm
}

// next fails the test if a goroutine has another next instruction.
func (r run) next(g int, want api.Ins) {
	r.t.Helper()
	if got, ok := r.Next(g); !ok || !same(got, want) {
		r.t.Errorf("Next(%d): %v, %v, want %v", g, got, ok, want)
	}
}

// noNext fails the test if a goroutine has a next instruction.
func (r run) noNext(list ...int) {
	r.t.Helper()
	for _, g := range list {
		if got, ok := r.Next(g); ok || !same(got, api.Ins{}) {
			r.t.Errorf("Next(%d): %v, %v, want none", g, got, ok)
		}
	}
}

// reach fails the test if other things can be reached.
func (r run) reach(things int, words uint64) {
	r.t.Helper()
	if n, w := r.Reach(); n != things || w != words {
		r.t.Errorf("Reach: %d, %d, want %d, %d", n, w, things, words)
	}
}

// refuses fails the test if a step is answered otherwise, or changes something.
func (r run) refuses(g int, want api.Errno) {
	r.t.Helper()
	before := seen(r.Ideal)
	for _, choice := range []uint64{0, 1, math.MaxUint64} {
		if e := r.Step(g, choice); e != want {
			r.t.Errorf("Step(%d, %d): %d, want %d", g, choice, e, want)
		}
	}
	if !slices.Equal(before, seen(r.Ideal)) {
		r.t.Errorf("a refused Step(%d) changes something", g)
	}
}

// seen is what a run tells of its goroutines and its end, as numbers.
func seen(d *ideal.Ideal) []int {
	things, words := d.Reach()
	all := []int{things, int(words), d.Gs(), int(truth(d.Ended())), len(d.Trace())}
	for g := range d.Gs() {
		ins, ok := d.Next(g)
		all = append(all, d.State(g), d.Frames(g), int(truth(ok)), ins.Op, ins.A, ins.B, ins.C)
	}
	return all
}

// truth is a truth as an int.
func truth(is bool) uint64 {
	if is {
		return 1
	}
	return 0
}

// outcome is what is seen of a program of one function with these slots, to its end, or till it waits.
func outcome(t testing.TB, slots []api.Kind, code ...api.Ins) []api.Event {
	t.Helper()
	return outcomeOf(t, program(fun(0, slots, code...)))
}

// outcomeOf is what is seen of a program, whose goroutines go on, the one with the least number first.
func outcomeOf(t testing.TB, p api.Program) []api.Event {
	t.Helper()
	r := begin(t, p)
	r.finish()
	return r.Trace()
}

// expect fails the test if other events were seen.
func expect(t testing.TB, what string, got, want []api.Event) {
	t.Helper()
	if !slices.Equal(got, want) {
		t.Errorf("%s: %v, want %v", what, got, want)
	}
}
