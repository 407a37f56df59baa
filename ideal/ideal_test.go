package ideal_test

import (
	"math"
	"reflect"
	"slices"
	"testing"

	"treadle/api"
	"treadle/draft"
	"treadle/ideal"
	"treadle/verify"
)

func TestNewOfAProgramWithAFault(t *testing.T) {
	right := func() api.Program { return program(fun(0, kinds(num, flt), ret()), fun(1, kinds(num), ret())) }
	for _, c := range []struct {
		change func(p *api.Program)
		want   api.Fault
	}{
		{func(p *api.Program) { *p = api.Program{} }, api.Fault{E: api.ErrCount, Func: -1}},
		{func(p *api.Program) { p.Funcs = slices.Repeat(p.Funcs, 17) }, api.Fault{E: api.ErrCount, Func: -1}},
		{func(p *api.Program) { p.Types[3].Fields = nil }, api.Fault{E: api.ErrCount, Func: -1, At: 3}},
		{func(p *api.Program) { p.Types[4].Fields = kinds(ref) }, api.Fault{E: api.ErrKind, Func: -1, At: 4}},
		{func(p *api.Program) { p.Globals[2] = ref }, api.Fault{E: api.ErrGlobal, Func: -1, At: 2}},
		{func(p *api.Program) { p.Funcs[1].Params = 2 }, api.Fault{E: api.ErrCount, Func: 1}},
		{func(p *api.Program) { p.Funcs[0].Params = 1 }, api.Fault{E: api.ErrFunc}},
		{func(p *api.Program) { p.Funcs[1].Slots[0] = 3 }, api.Fault{E: api.ErrKind, Func: 1}},
		{func(p *api.Program) { p.Funcs[1].Code = nil }, api.Fault{E: api.ErrEnd, Func: 1}},
		{func(p *api.Program) { p.Funcs[1].Code = the(cons(0, 1)) }, api.Fault{E: api.ErrEnd, Func: 1}},
		{func(p *api.Program) { p.Funcs[0].Code = the(show(0), do(api.OpExit+1), ret()) }, api.Fault{E: api.ErrOp, At: 1}},
		{func(p *api.Program) { p.Funcs[0].Code = the(do(api.OpMove, 0, 0, 1), ret()) }, api.Fault{E: api.ErrForm}},
		{func(p *api.Program) { p.Funcs[0].Code = the(show(0), show(2), ret()) }, api.Fault{E: api.ErrSlot, At: 1}},
		{func(p *api.Program) { p.Funcs[0].Code = the(do(api.OpMove, 0, 1), ret()) }, api.Fault{E: api.ErrKind}},
		{func(p *api.Program) { p.Funcs[1].Code = the(do(api.OpJump, 1)) }, api.Fault{E: api.ErrJump, Func: 1}},
		{func(p *api.Program) { p.Funcs[1].Code = the(with(api.OpCall, 2), ret()) }, api.Fault{E: api.ErrFunc, Func: 1}},
		{func(p *api.Program) { p.Funcs[1].Code = the(do(api.OpNew, 0, 8), ret()) }, api.Fault{E: api.ErrType, Func: 1}},
		{func(p *api.Program) { p.Funcs[1].Code = the(do(api.OpGet, 0, 6), ret()) }, api.Fault{E: api.ErrGlobal, Func: 1}},
		{func(p *api.Program) { p.Funcs[1].Code = the(ret(0)) }, api.Fault{E: api.ErrCount, Func: 1}},
	} {
		p := right()
		c.change(&p)
		d, fault := ideal.New(p)
		if d != nil || fault != c.want || fault != verify.Check(p) {
			t.Errorf("New: %v, %v, want %v; Check: %v", d, fault, c.want, verify.Check(p))
		}
	}
}

func TestNewIsARunAtItsBeginning(t *testing.T) {
	r := begin(t, program(fun(0, kinds(num), cons(0, 7), show(0), ret()), fun(0, nil, ret())))
	r.shows(nil)
	r.states(api.GReady)
	r.frames(1, 0)
	r.reach(0, 0)
	r.next(0, cons(0, 7))
	r.noNext(-1, 1, least, greatest)
	r.steps(0, 1)
	r.next(0, show(0))
	r.steps(0, 1)
	r.next(0, ret())
	r.shows(prints(0, 7))
	r.steps(0, 1)
	r.noNext(0)
	r.states(api.GDead)
	r.frames(0)
	r.shows(then(prints(0, 7), api.EvExit, 0, 0))
}

func TestTheFirstFrameIsOfTheFunction0(t *testing.T) {
	other := fun(0, kinds(num), cons(0, 2), show(0), ret())
	expect(t, "three functions", outcomeOf(t, program(fun(0, kinds(num), cons(0, 1), show(0), ret()), other, other)), then(prints(0, 1), api.EvExit, 0, 0))
}

func TestSlotsAreNoughtAtTheBeginning(t *testing.T) {
	slots := kinds(num, flt, ref, ptr(node), ptr(nums), line(num), line(ptr(node)), num, flt, ptr(node))
	zeros := []api.Event{event(api.EvPrint, 0, 0), event(api.EvFloat, 0, 0)}
	for _, c := range []struct {
		ins  api.Ins
		kind int
		n    int
	}{
		{do(api.OpGetRef, 0, 2), api.EvPanic, api.PanicNil},
		{do(api.OpLoad, 0, 3, 0), api.EvPanic, api.PanicNil},
		{do(api.OpLen, 0, 4), api.EvPanic, api.PanicNil},
		{do(api.OpClose, 5), api.EvPanic, api.PanicNil},
		{do(api.OpClose, 6), api.EvPanic, api.PanicNil},
		{do(api.OpRecv, 0, 5, 7), api.EvDead, 0},
		{do(api.OpRecv, 9, 6, 7), api.EvDead, 0},
	} {
		expect(t, "an instruction", outcome(t, slots, show(0), show(1), c.ins, ret()), then(zeros, c.kind, 0, c.n))
	}
}

func TestGlobalsAreNoughtAtTheBeginning(t *testing.T) {
	slots := kinds(num, flt, ptr(node), ptr(nodes), line(num), line(ptr(node)))
	first := the(
		cons(0, 9), bits(1, 9), do(api.OpGet, 0, gNum), do(api.OpGet, 1, gFlt), do(api.OpGet, 2, gNode), do(api.OpGet, 3, gNodes), do(api.OpGet, 4, gLine), do(api.OpGet, 5, gNodeLine),
		show(0), show(1))
	zeros := []api.Event{event(api.EvPrint, 0, 0), event(api.EvFloat, 0, 0)}
	for _, last := range []api.Ins{do(api.OpLoad, 0, 2, 0), do(api.OpLen, 0, 3), do(api.OpClose, 4), do(api.OpClose, 5)} {
		expect(t, "globals", outcome(t, slots, body(first, the(last, ret()))...), then(zeros, api.EvPanic, 0, api.PanicNil))
	}
}

// spoils is a function that shows what its slots behind the parameter are, and then writes into them.
func spoils() api.Func {
	return fun(1, kinds(num, num, flt, ptr(box), ptr(box), num, ref, num),
		show(1), show(2), do(api.OpPEq, 5, 3, 4), show(5), do(api.OpEq, 7, 7, 1), show(7),
		cons(1, 7), bits(2, math.Float64bits(1)), do(api.OpNew, 3, box), do(api.OpAddr, 6, 1), cons(7, 5), ret())
}

func TestSlotsOfEachNewFrameAreNought(t *testing.T) {
	want := []api.Event{event(api.EvPrint, 0, 0), event(api.EvFloat, 0, 0), event(api.EvPrint, 0, 1), event(api.EvPrint, 0, 1)}
	calls := outcomeOf(t, program(
		fun(0, kinds(num), cons(0, 3), with(api.OpCall, 1, 0), with(api.OpCall, 1, 0), with(api.OpDefer, 1, 0), with(api.OpDefer, 1, 0), do(api.OpPanic, 0), ret()), spoils()))
	expect(t, "calls", calls, then(slices.Repeat(want, 4), api.EvPanic, 0, 3))
	begun := outcomeOf(t, program(
		fun(0, kinds(num, line(num)), with(api.OpGo, 1, 0), with(api.OpGo, 1, 0), do(api.OpSleep, 0), do(api.OpRecv, 0, 1, 0), ret()), spoils()))
	for i := range begun {
		begun[i].G = 0
	}
	expect(t, "goroutines", begun, then(slices.Repeat(want, 2), api.EvDead, 0, 0))
}

// A program may be changed behind New: the run goes on as if it hadn't been.
func TestTheProgramIsNotKept(t *testing.T) {
	p := program(
		fun(0, kinds(num, num, ptr(node), flt),
			cons(0, 4), with(api.OpCall, 1, 0, 1, 2), do(api.OpSet, gNode, 2), do(api.OpGet, 2, gNode), with(api.OpDefer, 2, 1), show(3), do(api.OpLoad, 0, 2, 0), with(api.OpGo, 2, 0), ret()),
		gives(1, kinds(num, ptr(node), ptr(node)), kinds(num, ptr(node)), do(api.OpNew, 1, node), do(api.OpStore, 1, 0, 0), do(api.OpNew, 2, node), do(api.OpStore, 1, 2, 2), ret(0, 1)),
		fun(1, kinds(num), show(0), ret()))
	r := begin(t, p)
	draft.Spoil(p)
	r.steps(0, 6)
	r.next(0, ret(0, 1))
	r.reach(2, 10)
	r.steps(0, 7)
	r.next(0, ret())
	r.finish()
	r.shows([]api.Event{event(api.EvFloat, 0, 0), event(api.EvPrint, 0, 4), event(api.EvExit, 0, 0)})
	r.states(dead, ready)
	// The global leads to the node, whose field leads to the other one.
	r.reach(2, 10)
}

func TestTheProgramStays(t *testing.T) {
	p := draft.Roomy(program(
		fun(0, kinds(num, num, line(num), ptr(node)),
			cons(0, 4), with(api.OpDefer, 2, 0), with(api.OpCall, 1, 0, 1, 1), makeLine(2, 1), with(api.OpGo, 2, 1),
			do(api.OpSend, 2, 0), sel(0, 1, 2, 1, 0, 2, 0), do(api.OpNew, 3, node), do(api.OpSet, gNode, 3), show(1), ret()),
		gives(1, kinds(num), kinds(num, num), do(api.OpAdd, 0, 0, 0), ret(0, 0)),
		fun(1, kinds(num), show(0), ret())))
	before := draft.Whole(p)
	r := begin(t, p)
	r.finish()
	r.shows(then(prints(0, 4, 4), api.EvExit, 0, 0))
	if !reflect.DeepEqual(before, draft.Whole(p)) {
		t.Error("the program is changed, or what stands behind its lists")
	}
}

func TestTheTraceIsNewEachTime(t *testing.T) {
	r := begin(t, program(fun(0, kinds(num), show(0), show(0), show(0), ret())))
	r.steps(0, 2)
	first, second := r.Trace(), r.Trace()
	first[0] = event(api.EvDead, 5, 5)
	first = append(first, event(api.EvDead, 6, 6))
	expect(t, "the other one", second, prints(0, 0, 0))
	second = append(second, event(api.EvDead, 7, 7))
	r.steps(0, 1)
	r.shows(prints(0, 0, 0, 0))
	if first[2].G != 6 || second[2].G != 7 {
		t.Errorf("the lists share room: %v, %v", first, second)
	}
}

func TestTheListOfNextIsNew(t *testing.T) {
	r := begin(t, program(fun(0, kinds(num, num), cons(1, 5), with(api.OpCall, 1, 1), ret()), fun(1, kinds(num), show(0), ret())))
	r.steps(0, 1)
	r.next(0, with(api.OpCall, 1, 1))
	for range 2 {
		ins, _ := r.Next(0)
		long := ins.List[:cap(ins.List)]
		for i := range long {
			long[i] = 0
		}
	}
	r.next(0, with(api.OpCall, 1, 1))
	r.finish()
	r.shows(then(prints(0, 5), api.EvExit, 0, 0))
}

// What a run does hangs on nothing but what it is told: two runs of one program know nothing of each other.
func TestRunsOfOneProgramAreApart(t *testing.T) {
	p := program(fun(0, kinds(num, num, ptr(node)), do(api.OpGet, 0, gNum), show(0), cons(1, 1), do(api.OpAdd, 0, 0, 1), do(api.OpSet, gNum, 0), do(api.OpNew, 2, node), do(api.OpSet, gNode, 2), do(api.OpJump, 0)))
	x, y := begin(t, p), begin(t, p)
	x.steps(0, 18)
	y.steps(0, 2)
	y.shows(prints(0, 0))
	y.reach(0, 0)
	x.shows(prints(0, 0, 1, 2))
	x.reach(1, 5)
}

func TestNilRun(t *testing.T) {
	var d *ideal.Ideal
	for _, g := range []int{least, -1, 0, 1, greatest} {
		if e := d.Step(g, 3); e != api.ErrState {
			t.Errorf("Step(%d): %d", g, e)
		}
		ins, ok := d.Next(g)
		if d.State(g) != api.GNone || d.Frames(g) != 0 || ok || !same(ins, api.Ins{}) {
			t.Errorf("the goroutine %d: %d, %d, %v, %v", g, d.State(g), d.Frames(g), ins, ok)
		}
	}
	for _, n := range []uint64{0, 1, math.MaxUint64} {
		if e := d.Tick(n); e != api.ErrState {
			t.Errorf("Tick(%d): %d", n, e)
		}
	}
	things, words := d.Reach()
	if things != 0 || words != 0 || len(d.Trace()) != 0 || d.Ended() || d.Gs() != 0 {
		t.Errorf("%d, %d, %v, %v, %d", things, words, d.Trace(), d.Ended(), d.Gs())
	}
}

// there are goroutines of which a program tells nothing: 0 is ready, 1 waits, 2 sleeps, 3 is dead.
func there(t *testing.T) run {
	t.Helper()
	r := begin(t, program(
		fun(0, kinds(num), with(api.OpGo, 1), with(api.OpGo, 2), with(api.OpGo, 3), do(api.OpYield), stop(0)),
		fun(0, kinds(num, line(num)), do(api.OpRecv, 0, 1, 0), ret()),
		fun(0, kinds(num), cons(0, 5), do(api.OpSleep, 0), ret()),
		fun(0, nil, ret())))
	r.steps(0, 3)
	r.steps(1, 1)
	r.steps(2, 2)
	r.steps(3, 1)
	r.states(api.GReady, api.GWaits, api.GWaits, api.GDead)
	r.frames(1, 1, 1, 0)
	return r
}

func TestStepIsRefused(t *testing.T) {
	r := there(t)
	none := []int{least, -64, -1, 4, 5, 63, 64, greatest}
	for _, g := range none {
		r.refuses(g, api.ErrNone)
	}
	for g := 1; g <= 3; g++ {
		r.refuses(g, api.ErrState)
		r.noNext(g)
	}
	r.steps(0, 2)
	r.shows([]api.Event{event(api.EvExit, 0, 0)})
	for g := range 4 {
		r.refuses(g, api.ErrState)
		r.noNext(g)
	}
	// That there is no such goroutine is told ahead of that the run has ended.
	for _, g := range none {
		r.refuses(g, api.ErrNone)
	}
}

func TestTickOfARunThatHasEnded(t *testing.T) {
	r := there(t)
	r.steps(0, 2)
	for _, n := range []uint64{0, 5, api.MaxTicks, math.MaxUint64} {
		if e := r.Tick(n); e != api.ErrState {
			t.Errorf("Tick(%d): %d", n, e)
		}
	}
	r.states(api.GReady, api.GWaits, api.GWaits, api.GDead)
	r.frames(1, 1, 1, 0)
	r.shows([]api.Event{event(api.EvExit, 0, 0)})
}

// sleepers is a run whose goroutines, from 1 on, sleep so many ticks each, from now on, and whose goroutine 0 is ready.
func sleepers(t *testing.T, ticks ...int) run {
	t.Helper()
	var code []api.Ins
	for _, n := range ticks {
		code = append(code, cons(0, n), with(api.OpGo, 1, 0))
	}
	r := begin(t, program(fun(0, kinds(num), append(code, do(api.OpJump, len(code)))...), fun(1, kinds(num), do(api.OpSleep, 0), show(0), ret())))
	r.steps(0, len(code))
	for g := range ticks {
		r.steps(g+1, 1)
	}
	return r
}

func TestSleepAndTick(t *testing.T) {
	const ready, waits = api.GReady, api.GWaits
	r := sleepers(t, 1, 3, 3, 4, 0, -1, least, forEver)
	r.states(ready, waits, waits, waits, waits, ready, ready, ready, waits)
	r.tick(0)
	r.states(ready, waits, waits, waits, waits, ready, ready, ready, waits)
	r.noNext(1, 2, 3, 4, 8)
	r.next(5, show(0))
	r.tick(1)
	r.states(ready, ready, waits, waits, waits, ready, ready, ready, waits)
	r.next(1, show(0))
	r.tick(1)
	r.states(ready, ready, waits, waits, waits, ready, ready, ready, waits)
	r.tick(1)
	r.states(ready, ready, ready, ready, waits, ready, ready, ready, waits)
	r.tick(api.MaxTicks - 4)
	r.states(ready, ready, ready, ready, ready, ready, ready, ready, waits)
	r.tick(1)
	r.states(ready, ready, ready, ready, ready, ready, ready, ready, ready)
	r.steps(2, 1)
	r.shows(prints(2, 3))
}

func TestTheClockStaysAtMaxTicks(t *testing.T) {
	for _, far := range [][]uint64{{api.MaxTicks}, {api.MaxTicks + 1}, {math.MaxUint64}, {1, math.MaxUint64}, {api.MaxTicks - 1, 1}, {api.MaxTicks - 1, 7}, {math.MaxUint64, math.MaxUint64}} {
		r := sleepers(t, api.MaxTicks)
		r.states(api.GReady, api.GWaits)
		for _, n := range far {
			r.tick(n)
		}
		r.states(api.GReady, api.GReady)
	}
	// At its end nobody sleeps any more.
	code := body(times(8, do(api.OpYield)), the(do(api.OpSleep, 0), show(0), do(api.OpJump, 8)))
	for _, n := range []int{1, 5, api.MaxTicks, forEver, 0, -1} {
		r := begin(t, program(fun(0, kinds(num), append(the(cons(0, n)), code...)...)))
		r.steps(0, 9)
		r.tick(api.MaxTicks)
		r.steps(0, 2)
		r.shows(prints(0, n))
		r.states(api.GReady)
	}
}

func TestSleepIsCutAtMaxTicks(t *testing.T) {
	for _, c := range []struct {
		clock uint64
		ticks int
		until uint64
	}{
		{0, api.MaxTicks - 1, api.MaxTicks - 1}, {0, api.MaxTicks, api.MaxTicks}, {0, api.MaxTicks + 1, api.MaxTicks}, {0, forEver, api.MaxTicks}, {5, forEver, api.MaxTicks},
		{5, api.MaxTicks - 6, api.MaxTicks - 1}, {5, api.MaxTicks - 5, api.MaxTicks}, {5, api.MaxTicks - 4, api.MaxTicks}, {api.MaxTicks - 1, 1, api.MaxTicks}, {api.MaxTicks - 1, 2, api.MaxTicks}, {7, 3, 10},
	} {
		r := begin(t, program(fun(0, kinds(num), cons(0, c.ticks), do(api.OpSleep, 0), ret())))
		r.steps(0, 1)
		r.tick(c.clock)
		r.steps(0, 1)
		r.states(api.GWaits)
		r.tick(c.until - c.clock - 1)
		r.states(api.GWaits)
		r.shows(nil)
		r.tick(1)
		r.states(api.GReady)
	}
}

// Who sleeps again sleeps from then on, and the clock wakes nobody who waits for another one.
func TestTickWakesOnlyWhoSleeps(t *testing.T) {
	r := begin(t, program(
		fun(0, kinds(num, num, line(num)), cons(0, 2), do(api.OpSleep, 0), do(api.OpSleep, 0), do(api.OpRecv, 1, 2, 1), ret()),
		fun(0, nil, ret())))
	r.steps(0, 2)
	r.tick(9)
	r.next(0, do(api.OpSleep, 0))
	r.steps(0, 1)
	r.tick(1)
	r.states(api.GWaits)
	r.tick(1)
	r.states(api.GReady)
	r.next(0, do(api.OpRecv, 1, 2, 1))
	r.steps(0, 1)
	r.shows([]api.Event{event(api.EvDead, 0, 0)})
	r.states(api.GWaits)
	r.refuses(0, api.ErrState)
}

func TestTickWakesNobodyAtAChannel(t *testing.T) {
	r := begin(t, program(
		fun(0, kinds(num), with(api.OpGo, 1), do(api.OpJump, 1)),
		fun(0, kinds(num, line(num)), makeLine(1, 0), do(api.OpRecv, 0, 1, 0), ret())))
	r.steps(0, 1)
	r.steps(1, 2)
	r.tick(api.MaxTicks)
	r.states(api.GReady, api.GWaits)
}

func TestEndOfTheRun(t *testing.T) {
	waits := fun(0, kinds(num, line(num)), do(api.OpRecv, 0, 1, 0), ret())
	sleeps := fun(0, kinds(num), cons(0, 1), do(api.OpSleep, 0), ret())
	// The last one that waits, or dies, is named.
	r := begin(t, program(fun(0, kinds(num, line(num)), with(api.OpGo, 1), do(api.OpRecv, 0, 1, 0), ret()), waits))
	r.steps(0, 2)
	r.shows(nil)
	r.steps(1, 1)
	r.shows([]api.Event{event(api.EvDead, 1, 0)})
	r.states(api.GWaits, api.GWaits)
	r = begin(t, program(fun(0, kinds(num, line(num)), with(api.OpGo, 1), with(api.OpGo, 1), do(api.OpRecv, 0, 1, 0), ret()), fun(0, nil, ret())))
	r.steps(0, 3)
	r.steps(2, 1)
	r.shows(nil)
	r.steps(1, 1)
	r.shows([]api.Event{event(api.EvDead, 1, 0)})
	r.states(api.GWaits, api.GDead, api.GDead)
	// As long as somebody sleeps the run goes on.
	r = begin(t, program(fun(0, kinds(num, line(num)), with(api.OpGo, 1), do(api.OpRecv, 0, 1, 0), ret()), sleeps))
	r.steps(0, 2)
	r.steps(1, 2)
	r.shows(nil)
	r.states(api.GWaits, api.GWaits)
	r.tick(1)
	r.steps(1, 1)
	r.shows([]api.Event{event(api.EvDead, 1, 0)})
	r.states(api.GWaits, api.GDead)
	// Goroutine 0's last frame ends it, whoever is there.
	r = begin(t, program(fun(0, nil, with(api.OpGo, 1), with(api.OpGo, 1), ret()), sleeps))
	r.steps(0, 2)
	r.steps(1, 2)
	r.steps(0, 1)
	r.shows([]api.Event{event(api.EvExit, 0, 0)})
	r.states(api.GDead, api.GWaits, api.GReady)
	r.noNext(0, 1, 2)
}

func TestExit(t *testing.T) {
	for _, n := range []int{0, 1, 77, -1, least, greatest} {
		r := begin(t, program(fun(0, nil, with(api.OpGo, 1), do(api.OpJump, 1)), fun(0, kinds(num), with(api.OpDefer, 2), with(api.OpCall, 3), ret()), fun(0, kinds(num), show(0), ret()), fun(0, kinds(num), cons(0, n), stop(0))))
		r.steps(0, 1)
		r.steps(1, 4)
		// No frame leaves: what was put off isn't begun.
		r.shows([]api.Event{event(api.EvExit, 1, n)})
		r.states(api.GReady, api.GReady)
		r.frames(1, 2)
		r.refuses(0, api.ErrState)
		r.refuses(1, api.ErrState)
	}
}

func TestPrint(t *testing.T) {
	var code []api.Ins
	var want []api.Event
	for _, n := range []int{0, 1, -1, 300, least, greatest} {
		code = append(code, cons(0, n), show(0))
		want = then(want, api.EvPrint, 0, n)
	}
	for _, w := range []uint64{0, 1, 1 << 63, math.Float64bits(1.5), math.Float64bits(math.Inf(-1)), theNaN} {
		code = append(code, bits(1, w), show(1))
		want = append(want, api.Event{Kind: api.EvFloat, Value: w})
	}
	expect(t, "prints", outcome(t, kinds(num, flt), append(code, ret())...), then(want, api.EvExit, 0, 0))
}

func TestEventsNameTheGoroutineThatGoesOn(t *testing.T) {
	r := begin(t, program(
		fun(0, kinds(num, flt), with(api.OpGo, 1), with(api.OpGo, 1), show(0), show(1), ret()),
		fun(0, kinds(num, flt), show(1), show(0), show(0), do(api.OpPanic, 0))))
	r.steps(0, 2)
	r.steps(2, 1)
	r.steps(1, 2)
	r.steps(0, 2)
	r.steps(2, 2)
	want := []api.Event{event(api.EvFloat, 2, 0), event(api.EvFloat, 1, 0), event(api.EvPrint, 1, 0), event(api.EvPrint, 0, 0), event(api.EvFloat, 0, 0), event(api.EvPrint, 2, 0), event(api.EvPrint, 2, 0)}
	r.shows(want)
	r.steps(2, 1)
	r.shows(then(want, api.EvPanic, 2, 0))
}

// full is a run of two goroutines whose trace has so many prints; behind each print of an int one of a float follows.
func full(t *testing.T, n int) run {
	t.Helper()
	r := begin(t, program(
		fun(0, kinds(num, flt), with(api.OpGo, 1), show(0), show(1), do(api.OpJump, 1)),
		fun(0, kinds(num, flt), cons(0, 7), show(0), show(1), stop(0))))
	r.steps(0, 1)
	r.steps(1, 1)
	for len(r.Trace()) < n {
		r.steps(0, 1)
	}
	if last := r.Trace()[n-1]; r.Ended() || n != len(r.Trace()) || last.Kind > api.EvFloat {
		t.Fatalf("behind %d events: %v", len(r.Trace()), last)
	}
	return r
}

func TestTheLastEventIsFull(t *testing.T) {
	const last = api.MaxTrace - 1
	for _, g := range []int{0, 1} {
		r := full(t, last-1)
		r.steps(1, 1)
		before := r.Trace()
		if g == 1 {
			r.steps(1, 1)
		} else {
			for !r.Ended() {
				r.steps(0, 1)
			}
		}
		r.shows(then(before, api.EvFull, g, 0))
		if len(r.Trace()) != api.MaxTrace {
			t.Errorf("%d events", len(r.Trace()))
		}
		r.states(api.GReady, api.GReady)
		r.refuses(0, api.ErrState)
	}
	// An event that is no print stands there as it is.
	r := full(t, last-2)
	r.steps(1, 2)
	before := r.Trace()
	r.steps(1, 1)
	r.shows(then(before, api.EvExit, 1, 7))
}

func TestTheLastEventIsFullForAFloatToo(t *testing.T) {
	r := full(t, api.MaxTrace-2)
	r.steps(1, 1)
	r.next(1, show(1))
	before := r.Trace()
	r.steps(1, 1)
	r.shows(then(before, api.EvFull, 1, 0))
}
