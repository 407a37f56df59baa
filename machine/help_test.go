package machine_test

import (
	"cmp"
	"slices"
	"testing"

	"treadle/api"
	"treadle/draft"
	"treadle/ideal"
	"treadle/machine"
	"treadle/sched"
)

const (
	num = draft.Num
	flt = draft.Flt
	ref = draft.Ref

	least    = draft.Least
	greatest = draft.Greatest
)

// The types and the globals of the tests' programs.
const (
	box   = draft.Box
	node  = draft.Node
	nums  = draft.Nums
	nodes = draft.Nodes
	lines = draft.Lines
	ring  = draft.Ring

	gNum      = draft.GNum
	gNode     = draft.GNode
	gNodes    = draft.GNodes
	gLine     = draft.GLine
	gNodeLine = draft.GNodeLine
)

// What the tests' programs are written with.
var (
	ptr      = draft.Ptr
	line     = draft.Line
	kinds    = draft.Kinds
	program  = draft.Program
	fun      = draft.Fun
	gives    = draft.Gives
	do       = draft.Do
	cons     = draft.Const
	bits     = draft.Bits
	makeLine = draft.MakeLine
	with     = draft.With
	ret      = draft.Ret
	sel      = draft.Select
	selOr    = draft.SelectOr
	show     = draft.Show
	stop     = draft.Stop
	body     = draft.Body
	the      = draft.The
	times    = draft.Times
)

// The events that are wanted.
var (
	event  = draft.Event
	prints = draft.Prints
	then   = draft.Then
	exits  = draft.Exits
	panics = draft.Panics
)

// wide is a configuration with all the memory that may be.
func wide(procs int) api.Config {
	return api.Config{Procs: procs, Pages: api.MaxPages, Gogc: 100}
}

// step is an entry with which a processor acts; the goroutine's choice goes with it.
func step(p int, choice uint64) api.Entry {
	return api.Entry{Kind: api.EnStep, P: p, Arg: choice * 256}
}

// entry is an entry that is no step.
func entry(kind, p int, arg uint64) api.Entry { return api.Entry{Kind: kind, P: p, Arg: arg} }

// begin is a machine with a program that is right.
func begin(t testing.TB, c api.Config, p api.Program) *machine.Machine {
	t.Helper()
	m, fault := machine.New(c, p)
	if m == nil || fault != (api.Fault{}) {
		t.Fatalf("New(%v): %v, %v", c, m, fault)
	}
	return m
}

// rig is a machine beside a run of layer 18, which takes the moves that the machine must make, and a scheduler, which is told what happens to the goroutines there.
type rig struct {
	t      testing.TB
	c      api.Config
	p      api.Program
	m      *machine.Machine
	d      *ideal.Ideal
	s      *sched.Sched
	moves  []api.Move
	waits  map[int]int // of those who wait: behind how many moves they came
	memory bool        // memory has ended
	pure   bool        // the cycle under way was begun by EnCollect, and no instruction was executed since
	cycles int         // how many such cycles have ended
}

// newRig is a rig at a run's beginning.
func newRig(t testing.TB, c api.Config, p api.Program) *rig {
	t.Helper()
	d, fault := ideal.New(p)
	if d == nil {
		t.Fatalf("a program that is wrong: %v: %v", fault, p)
	}
	s, _ := sched.New(c.Procs)
	s.Begin(0)
	r := &rig{t: t, c: c, p: p, m: begin(t, c, p), d: d, s: s, waits: map[int]int{}}
	r.tellAll(nil)
	return r
}

// do tells the machine an entry, and the others what it must do, and holds all that it tells against these. It answers whether the run goes on.
func (r *rig) do(e api.Entry) bool {
	r.t.Helper()
	if r.d.Ended() || r.memory {
		r.isOver(e)
		return false
	}
	p := ((e.P % r.c.Procs) + r.c.Procs) % r.c.Procs
	before, shown, acts := r.m.Stats(), r.d.Trace(), false
	switch e.Kind {
	case api.EnStep:
		what, g, _ := r.s.Act(p, int(e.Arg%256))
		acts = what == sched.Run || what == sched.Idle
		if what == sched.Run {
			r.pure = false
			r.execute(p, g, e.Arg/256)
		}
	case api.EnTick:
		r.moves = append(r.moves, api.Move{G: -1, Choice: e.Arg%8 + 1})
		r.s.Tick(e.Arg%8 + 1)
		r.d.Tick(e.Arg%8 + 1)
	case api.EnPreempt:
		r.s.Yield(p)
	case api.EnCollect:
		r.pure = r.pure || before.Phase == 0
		acts = true
	case api.EnWork, api.EnScav:
		acts = true
	}
	goesOn := r.m.Do(e)
	if trace := r.m.Trace(); len(trace) > 0 && trace[len(trace)-1].Kind == api.EvMemory {
		r.memory = true
	}
	if goesOn != (!r.d.Ended() && !r.memory) {
		r.t.Errorf("Do(%v): %v behind %v", e, goesOn, r.m.Trace())
	}
	if after := r.m.Stats(); !acts && after != before {
		r.t.Errorf("Do(%v): %v, want %v", e, after, before)
	}
	r.tellAll(shown)
	r.tellMemory(before.Phase)
	if r.t.Failed() {
		r.t.Fatalf("behind %v, the moves %v of %v", e, r.moves, r.p)
	}
	return goesOn
}

// isOver fails the test if an entry does anything behind the end.
func (r *rig) isOver(e api.Entry) {
	r.t.Helper()
	stats := r.m.Stats()
	if r.m.Do(e) || r.m.Stats() != stats || !r.m.Ended() {
		r.t.Errorf("Do(%v) behind the end", e)
	}
	if !r.memory {
		r.tellAll(nil)
	}
}

// execute lets a processor's goroutine execute an instruction, in layer 18, and tells the scheduler what it comes to.
func (r *rig) execute(p, g int, choice uint64) {
	r.t.Helper()
	ins, _ := r.d.Next(g)
	var asleep []int
	for other := range r.waits {
		if r.d.State(other) == api.GWaits {
			asleep = append(asleep, other)
		}
	}
	all := r.d.Gs()
	r.moves = append(r.moves, api.Move{G: g, Choice: choice})
	if e := r.d.Step(g, choice); e != api.OK {
		r.t.Fatalf("the move %d of %v: %d", len(r.moves), r.moves, e)
	}
	// At one channel only such wait that would do the same, in the order in which they came.
	slices.SortFunc(asleep, func(x, y int) int { return cmp.Compare(r.waits[x], r.waits[y]) })
	for _, other := range asleep {
		if r.d.State(other) == api.GReady {
			r.s.Ready(p, other)
			delete(r.waits, other)
		}
	}
	if r.d.Gs() > all {
		r.s.Begin(p)
	}
	switch state := r.d.State(g); {
	case state == api.GDead:
		r.s.End(p)
	case state == api.GWaits && ins.Op == api.OpSleep:
		r.s.Sleep(p, r.wakes(g))
	case state == api.GWaits:
		r.s.Block(p)
		r.waits[g] = len(r.moves)
	case ins.Op == api.OpYield:
		r.s.Yield(p)
	}
}

// wakes is the time until which a goroutine sleeps; one that is far off is MaxTicks.
func (r *rig) wakes(g int) uint64 {
	d, _ := ideal.New(r.p)
	for _, move := range r.moves {
		take(d, move)
	}
	now, _, _ := r.s.Counts()
	for n := range uint64(4000) {
		if d.State(g) == api.GReady {
			return now + n
		}
		d.Tick(1)
	}
	return api.MaxTicks
}

// take lets a run of layer 18 take a move.
func take(d *ideal.Ideal, move api.Move) api.Errno {
	if move.G == -1 {
		return d.Tick(move.Choice)
	}
	return d.Step(move.G, move.Choice)
}

// tellAll holds what the machine tells of the run against the others; if memory has ended, against what was shown ahead of that.
func (r *rig) tellAll(shown []api.Event) {
	r.t.Helper()
	if got := r.m.Moves(); !slices.Equal(got, r.moves) {
		r.t.Errorf("Moves: %v, want %v", got, r.moves)
	}
	trace := r.m.Trace()
	if r.memory {
		want := then(shown, api.EvMemory, lastOf(r.moves), 0)
		if !slices.Equal(trace, want) || !r.m.Ended() {
			r.t.Errorf("Trace: %v, %v, want %v", trace, r.m.Ended(), want)
		}
		return
	}
	if want := r.d.Trace(); !slices.Equal(trace, want) || r.m.Ended() != r.d.Ended() {
		r.t.Errorf("Trace: %v, %v, want %v, %v", trace, r.m.Ended(), want, r.d.Ended())
	}
	for g := -2; g < r.d.Gs()+2; g++ {
		if got, want := r.m.State(g), r.s.State(g); got != want {
			r.t.Errorf("State(%d): %d, want %d", g, got, want)
		}
	}
	for p := -2; p < r.c.Procs+2; p++ {
		if got, want := r.m.Current(p), r.s.Current(p); got != want {
			r.t.Errorf("Current(%d): %d, want %d", p, got, want)
		}
	}
}

// tellMemory holds what the machine tells of its memory against what can be reached, behind an entry ahead of which a cycle was in a phase.
func (r *rig) tellMemory(phase int) {
	r.t.Helper()
	stats := r.m.Stats()
	if most := 2*len(r.moves) + 2; stats.StackMove < 0 || stats.StackMove > most {
		r.t.Errorf("StackMove: %d, want at most %d", stats.StackMove, most)
	}
	if stats.Mapped > r.c.Pages || stats.Words > uint64(api.PageWords*stats.Mapped) {
		r.t.Errorf("Stats: %v, with %d pages", stats, r.c.Pages)
	}
	if r.memory {
		if most := r.mostNeeded(); most <= r.c.Pages {
			r.t.Errorf("memory has ended: %d pages, where %d are enough", r.c.Pages, most)
		}
		return
	}
	things, words := r.d.Reach()
	if stats.Objects < things || stats.Words < words {
		r.t.Errorf("Stats: %v, but %d with %d words are reached", stats, things, words)
	}
	if !r.pure || phase == 0 || stats.Phase != 0 {
		return
	}
	r.pure = false
	r.cycles++
	if stats.Objects != things || stats.Words != words {
		r.t.Errorf("behind a cycle: %v, want %d with %d words", stats, things, words)
	}
}

// mostNeeded is how many pages are enough for the run, as it was: for what could be reached, and for the goroutines.
func (r *rig) mostNeeded() int {
	d, _ := ideal.New(r.p)
	most := 0
	for _, move := range append([]api.Move{{G: -1}}, r.moves...) {
		take(d, move)
		things, _ := d.Reach()
		most = max(most, 128*(things+d.Gs()+16*r.c.Procs+2))
	}
	return most
}

// collect has a whole cycle made, without a step meanwhile; if one is under way, behind that.
func (r *rig) collect() {
	r.t.Helper()
	for range 2 {
		r.do(entry(api.EnCollect, 0, 0))
		for r.m.Stats().Phase != 0 && r.do(entry(api.EnWork, 0, 0)) {
		}
	}
}

// finish lets the processors act in turn, and the clock go on, till the run has ended, or so many times.
func (r *rig) finish(most int) []api.Event {
	r.t.Helper()
	for n := range most {
		if !r.do(step(n, 0)) {
			break
		}
		if n%8 == 7 {
			r.do(entry(api.EnTick, 0, 0))
		}
	}
	return r.m.Trace()
}
