package machine_test

import (
	"math"
	"reflect"
	"slices"
	"testing"

	"treadle/api"
	"treadle/draft"
	"treadle/machine"
	"treadle/verify"
)

func TestNewOfAProgramWithAFault(t *testing.T) {
	right := func() api.Program { return program(fun(0, kinds(num, flt), ret()), fun(1, kinds(num), ret())) }
	for _, c := range []struct {
		change func(p *api.Program)
		want   api.Fault
	}{
		{func(p *api.Program) { *p = api.Program{} }, api.Fault{E: api.ErrCount, Func: -1}},
		{func(p *api.Program) { p.Types[3].Fields = nil }, api.Fault{E: api.ErrCount, Func: -1, At: 3}},
		{func(p *api.Program) { p.Types[4].Fields = kinds(ref) }, api.Fault{E: api.ErrKind, Func: -1, At: 4}},
		{func(p *api.Program) { p.Globals[2] = ref }, api.Fault{E: api.ErrGlobal, Func: -1, At: 2}},
		{func(p *api.Program) { p.Funcs[1].Params = 2 }, api.Fault{E: api.ErrCount, Func: 1}},
		{func(p *api.Program) { p.Funcs[0].Params = 1 }, api.Fault{E: api.ErrFunc}},
		{func(p *api.Program) { p.Funcs[1].Code = nil }, api.Fault{E: api.ErrEnd, Func: 1}},
		{func(p *api.Program) { p.Funcs[0].Code = the(show(0), do(api.OpExit+1), ret()) }, api.Fault{E: api.ErrOp, At: 1}},
		{func(p *api.Program) { p.Funcs[0].Code = the(do(api.OpMove, 0, 0, 1), ret()) }, api.Fault{E: api.ErrForm}},
		{func(p *api.Program) { p.Funcs[0].Code = the(show(0), show(2), ret()) }, api.Fault{E: api.ErrSlot, At: 1}},
		{func(p *api.Program) { p.Funcs[0].Code = the(do(api.OpMove, 0, 1), ret()) }, api.Fault{E: api.ErrKind}},
		{func(p *api.Program) { p.Funcs[1].Code = the(do(api.OpJump, 1)) }, api.Fault{E: api.ErrJump, Func: 1}},
		{func(p *api.Program) { p.Funcs[1].Code = the(with(api.OpCall, 2), ret()) }, api.Fault{E: api.ErrFunc, Func: 1}},
		{func(p *api.Program) { p.Funcs[1].Code = the(do(api.OpNew, 0, 8), ret()) }, api.Fault{E: api.ErrType, Func: 1}},
		// References stand in slots alone: neither an object, nor a channel, nor a global, nor a call that was put off has one, nor a result.
		{func(p *api.Program) { p.Types[2].Fields = kinds(ref) }, api.Fault{E: api.ErrKind, Func: -1, At: 2}},
		{func(p *api.Program) { p.Globals[0] = line(ref) }, api.Fault{E: api.ErrGlobal, Func: -1}},
		{func(p *api.Program) {
			p.Funcs = []api.Func{fun(0, kinds(ref), with(api.OpDefer, 1, 0), ret()), fun(1, kinds(ref), ret())}
		}, api.Fault{E: api.ErrKind}},
		{func(p *api.Program) { p.Funcs[1].Results = kinds(ref) }, api.Fault{E: api.ErrKind, Func: 1}},
	} {
		p := right()
		c.change(&p)
		// The program's fault is told ahead of the configuration's.
		for _, config := range []api.Config{wide(1), {}, {Procs: 0, Pages: api.MaxPages}, {Procs: 1, Pages: 0}, {Procs: least, Pages: greatest}} {
			m, fault := machine.New(config, p)
			if m != nil || fault != c.want || fault != verify.Check(p) {
				t.Errorf("New(%v): %v, %v, want %v; Check: %v", config, m, fault, c.want, verify.Check(p))
			}
		}
	}
}

func TestNewOfConfigurations(t *testing.T) {
	p := program(fun(0, kinds(num), show(0), ret()))
	refused := api.Fault{E: api.ErrArg, Func: -2}
	for _, procs := range []int{least, -1, 0, 1, 2, api.MaxProcs, api.MaxProcs + 1, greatest} {
		for _, pages := range []int{least, -1, 0, 1, 2, api.MaxPages, api.MaxPages + 1, greatest} {
			for _, gogc := range []int{least, -1, 0, 100, greatest} {
				for _, limit := range []uint64{0, 1, math.MaxUint64} {
					c := api.Config{Procs: procs, Pages: pages, Gogc: gogc, Limit: limit}
					m, fault := machine.New(c, p)
					if procs < 1 || procs > api.MaxProcs || pages < 1 || pages > api.MaxPages {
						if m != nil || fault != refused {
							t.Errorf("New(%v): %v, %v", c, m, fault)
						}
					} else if m == nil || fault != (api.Fault{}) {
						t.Errorf("New(%v): %v, %v", c, m, fault)
					}
				}
			}
		}
	}
}

func TestNewIsAMachineAtItsBeginning(t *testing.T) {
	for procs := 1; procs <= api.MaxProcs; procs++ {
		m := begin(t, wide(procs), program(fun(0, kinds(num), show(0), ret()), fun(0, nil, ret())))
		if len(m.Trace()) != 0 || len(m.Moves()) != 0 || m.Ended() || m.State(0) != api.GReady || m.State(1) != api.GNone || m.State(-1) != api.GNone {
			t.Errorf("%v, %v, %v, %d, %d", m.Trace(), m.Moves(), m.Ended(), m.State(0), m.State(1))
		}
		for p := -1; p <= procs; p++ {
			if got := m.Current(p); got != -1 {
				t.Errorf("Current(%d): %d", p, got)
			}
		}
		if s := m.Stats(); s.Objects != 0 || s.Words != 0 || s.Phase != 0 || s.Cycles != 0 || s.Goal != 256 {
			t.Errorf("Stats: %v", s)
		}
		// It was begun by the processor 0: it stands there as the next one.
		last := procs - 1
		for p := last; p >= 0; p-- {
			m.Do(step(p, 0))
			want := -1
			if p == last {
				want = 0
			}
			if got := m.Current(p); got != want {
				t.Errorf("Current(%d): %d, want %d", p, got, want)
			}
		}
	}
}

// forEver is a function that goes on for ever, and shows nothing.
func forEver() api.Func { return fun(0, nil, do(api.OpYield), do(api.OpJump, 1)) }

func TestProcessorsAreCountedRound(t *testing.T) {
	for procs := 1; procs <= api.MaxProcs; procs++ {
		for p := -2 * procs; p <= 3*procs; p++ {
			want := ((p % procs) + procs) % procs
			r := newRig(t, wide(procs), program(forEver()))
			r.do(step(p, 0))
			if got := r.m.Current(want); got != 0 {
				t.Errorf("%d of %d: Current(%d): %d", p, procs, want, got)
			}
			r.do(entry(api.EnPreempt, p-procs, 0))
			if got := r.m.Current(want); got != -1 {
				t.Errorf("%d of %d: Current(%d): %d", p, procs, want, got)
			}
		}
		for _, p := range []int{least, least + 1, greatest, greatest - 1} {
			r := newRig(t, wide(procs), program(forEver()))
			r.do(step(((p%procs)+procs)%procs, 0))
			r.do(step(p, 0))
			if len(r.m.Moves()) != 1 {
				t.Errorf("%d of %d: no move", p, procs)
			}
		}
	}
}

// Of Arg the first 256 numbers are the processor with which it begins to steal, the others are the choice.
func TestArgOfAStep(t *testing.T) {
	for _, choice := range []uint64{0, 1, 2, 255, 256, 1 << 40, 1<<56 - 1} {
		for _, start := range []uint64{0, 1, 7, 8, 255} {
			m := begin(t, wide(1), program(fun(0, nil, do(api.OpJump, 0))))
			m.Do(step(0, 0))
			m.Do(entry(api.EnStep, 0, choice*256+start))
			if got := m.Moves(); !slices.Equal(got, []api.Move{{G: 0, Choice: choice}}) {
				t.Errorf("Moves: %v, want the choice %d", got, choice)
			}
		}
	}
	// Three processors have a goroutine in their queues each; the processor 3 has none.
	p := program(fun(0, nil, with(api.OpGo, 1), with(api.OpGo, 1), with(api.OpGo, 1), do(api.OpJump, 3)), fun(0, nil, with(api.OpGo, 2), do(api.OpJump, 1)), fun(0, nil, do(api.OpJump, 0)))
	for start := range 256 {
		r := newRig(t, wide(4), p)
		for _, x := range []int{0, 0, 0, 0, 1, 1, 2, 2} {
			r.do(step(x, 0))
		}
		r.do(entry(api.EnStep, 3, uint64(start)))
		r.do(entry(api.EnStep, 3, uint64(start)))
	}
}

// A select with several ready cases takes the one that the choice tells.
func TestTheChoiceOfASelect(t *testing.T) {
	for _, full := range [][]int{{0}, {1}, {0, 1}, {0, 2}, {1, 2, 4}, {0, 1, 2, 3}, {0, 2, 3, 5, 6}, {1, 2, 3, 4, 5, 6, 7}, {0, 1, 2, 3, 4, 5, 6, 7}} {
		var slots []api.Kind
		var code []api.Ins
		var cases []int
		for i := range 8 {
			slots = append(slots, line(num))
			code = append(code, makeLine(i, 1))
			cases = append(cases, 1, i, 9)
		}
		for _, i := range full {
			code = append(code, cons(8, 10+i), do(api.OpSend, i, 8))
		}
		p := program(fun(0, append(slots, num, num), append(code, sel(8, cases...), show(8), show(9), ret())...))
		for _, choice := range []uint64{0, 1, 2, 3, 4, 5, 6, 7, 8, 9, 63, 64, 1 << 32, 1<<32 + 1, 1<<56 - 2, 1<<56 - 1} {
			for _, start := range []uint64{0, 1, 255} {
				m := begin(t, wide(2), p)
				for range 1 + len(code) {
					m.Do(step(0, 0))
				}
				m.Do(entry(api.EnStep, 0, choice*256+start))
				for range 3 {
					m.Do(step(0, 0))
				}
				taken := full[choice%uint64(len(full))]
				if got := m.Trace(); !slices.Equal(got, exits(taken, 10+taken)) {
					t.Errorf("%v by %d: %v", full, choice, got)
				}
			}
		}
	}
}

func TestTick(t *testing.T) {
	for n := range uint64(8) {
		for _, more := range []uint64{0, 8, 1 << 40, math.MaxUint64 - 7} {
			m := begin(t, wide(1), program(forEver()))
			if !m.Do(entry(api.EnTick, 5, more+n)) || !slices.Equal(m.Moves(), []api.Move{{G: -1, Choice: n + 1}}) {
				t.Errorf("Tick of %d: %v", more+n, m.Moves())
			}
		}
		// Who sleeps so long is taken behind it, and not one tick earlier.
		for _, sleeps := range []int{int(n) + 1, int(n) + 2} {
			r := newRig(t, wide(2), program(fun(0, kinds(num), cons(0, sleeps), do(api.OpSleep, 0), show(0), ret())))
			for range 3 {
				r.do(step(1, 0))
			}
			r.do(entry(api.EnTick, 0, n))
			if got := r.m.State(0); got != api.GWaits {
				t.Errorf("State: %d", got)
			}
			// It is ready when a processor has looked.
			r.do(step(0, 0))
			want := -1
			if sleeps == int(n)+1 {
				want = 0
			}
			if got := r.m.Current(0); got != want {
				t.Errorf("a sleep of %d behind %d: Current: %d, want %d", sleeps, n+1, got, want)
			}
		}
	}
}

func TestPreempt(t *testing.T) {
	r := newRig(t, wide(2), program(fun(0, nil, with(api.OpGo, 1), do(api.OpJump, 1)), forEver()))
	// Without a goroutine nothing happens.
	r.do(entry(api.EnPreempt, 0, 7))
	if r.m.State(0) != api.GReady || len(r.m.Moves()) != 0 {
		t.Errorf("%d, %v", r.m.State(0), r.m.Moves())
	}
	r.do(step(0, 0))
	r.do(step(0, 0))
	r.do(entry(api.EnPreempt, 0, 7))
	if r.m.Current(0) != -1 || r.m.State(0) != api.GReady || len(r.m.Moves()) != 1 {
		t.Errorf("%d, %d, %v", r.m.Current(0), r.m.State(0), r.m.Moves())
	}
	// It stands behind the other one.
	r.do(step(0, 0))
	r.do(step(1, 0))
	if r.m.Current(0) != 1 || r.m.Current(1) != 0 {
		t.Errorf("%d, %d", r.m.Current(0), r.m.Current(1))
	}
}

func TestAKindThatThereIsNot(t *testing.T) {
	m := begin(t, wide(2), program(fun(0, kinds(ptr(box)), do(api.OpNew, 0, box), do(api.OpJump, 1))))
	m.Do(step(0, 0))
	m.Do(step(0, 0))
	before, moves := m.Stats(), m.Moves()
	for _, kind := range []int{-1, api.EnScav + 1, 6, 7, 12, 256, least, greatest} {
		for _, arg := range []uint64{0, 1, 256, math.MaxUint64} {
			if !m.Do(entry(kind, 0, arg)) || m.Stats() != before || !slices.Equal(m.Moves(), moves) || m.Current(0) != 0 {
				t.Errorf("the kind %d does something", kind)
			}
		}
	}
}

func TestARunThatHasEnded(t *testing.T) {
	for name, p := range map[string]api.Program{
		"ret":      program(fun(0, kinds(num), show(0), ret())),
		"exit":     program(fun(0, kinds(num), show(0), stop(0))),
		"panic":    program(fun(0, kinds(num), show(0), do(api.OpPanic, 0))),
		"deadlock": program(fun(0, kinds(num, line(num)), show(0), do(api.OpSend, 1, 0), ret())),
		"full":     program(fun(0, kinds(num), show(0), with(api.OpGo, 1), do(api.OpJump, 1)), fun(0, nil, ret())),
	} {
		r := newRig(t, wide(2), p)
		for range 1000 {
			if !r.do(step(0, 0)) {
				break
			}
		}
		trace, moves, stats, state, current := r.m.Trace(), r.m.Moves(), r.m.Stats(), r.m.State(0), r.m.Current(0)
		if len(trace) != 2 || !r.m.Ended() {
			t.Errorf("%s: %v, %v", name, trace, r.m.Ended())
		}
		for kind := -1; kind <= api.EnScav+1; kind++ {
			for p := range 2 {
				if r.m.Do(entry(kind, p, 300)) {
					t.Errorf("%s: Do of the kind %d: true", name, kind)
				}
			}
		}
		if !slices.Equal(trace, r.m.Trace()) || !slices.Equal(moves, r.m.Moves()) || stats != r.m.Stats() || state != r.m.State(0) || current != r.m.Current(0) || !r.m.Ended() {
			t.Errorf("%s: something has changed behind the end", name)
		}
	}
}

// Two processors, entries in turn: the moves name two goroutines in turn.
func TestTwoProcessorsInTurn(t *testing.T) {
	r := newRig(t, wide(2), program(fun(0, nil, with(api.OpGo, 1), do(api.OpJump, 1)), fun(0, nil, do(api.OpJump, 0))))
	r.do(step(0, 0))
	r.do(step(0, 0))
	r.do(step(1, 0))
	want := []api.Move{{G: 0}}
	for range 100 {
		r.do(step(0, 0))
		r.do(step(1, 0))
		want = append(want, api.Move{G: 0}, api.Move{G: 1})
	}
	if got := r.m.Moves(); !slices.Equal(got, want) {
		t.Errorf("Moves: %v", got)
	}
}

func TestTraceAndMovesAreNewEachTime(t *testing.T) {
	m := begin(t, wide(1), program(fun(0, kinds(num), show(0), show(0), show(0), ret())))
	for range 3 {
		m.Do(step(0, 0))
	}
	first, second := m.Trace(), m.Trace()
	first[0] = event(api.EvDead, 5, 5)
	first = append(first, event(api.EvDead, 6, 6))
	second = append(second, event(api.EvDead, 7, 7))
	moves, others := m.Moves(), m.Moves()
	moves[0] = api.Move{G: 5}
	moves = append(moves, api.Move{G: 6})
	others = append(others, api.Move{G: 7})
	m.Do(step(0, 0))
	if got := m.Trace(); !slices.Equal(got, prints(0, 0, 0, 0)) || first[2].G != 6 || second[2].G != 7 || second[0].G != 0 {
		t.Errorf("Trace: %v; %v, %v", got, first, second)
	}
	if got := m.Moves(); !slices.Equal(got, make([]api.Move, 3)) || moves[2].G != 6 || others[2].G != 7 || others[0].G != 0 {
		t.Errorf("Moves: %v; %v, %v", got, moves, others)
	}
}

// manifold is a program in which there is all that a program has.
func manifold() api.Program {
	return program(
		fun(0, kinds(num, num, line(num), ptr(node)),
			cons(0, 4), with(api.OpDefer, 2, 0), with(api.OpCall, 1, 0, 1, 1), makeLine(2, 1), with(api.OpGo, 2, 1),
			do(api.OpSend, 2, 0), sel(0, 1, 2, 1, 0, 2, 0), do(api.OpNew, 3, node), do(api.OpSet, gNode, 3), show(1), ret()),
		gives(1, kinds(num), kinds(num, num), do(api.OpAdd, 0, 0, 0), ret(0, 0)),
		fun(1, kinds(num), show(0), ret()))
}

func TestTheProgramStays(t *testing.T) {
	p := draft.Roomy(manifold())
	before := draft.Whole(p)
	r := newRig(t, wide(1), p)
	r.do(entry(api.EnCollect, 0, 0))
	r.finish(1000)
	if !r.m.Ended() || !reflect.DeepEqual(before, draft.Whole(p)) {
		t.Error("the program is changed, or what stands behind its lists")
	}
}

// A program may be changed behind New: the run goes on as if it hadn't been.
func TestTheProgramIsNotKept(t *testing.T) {
	p := manifold()
	m := begin(t, wide(1), p)
	want := begin(t, wide(1), manifold())
	draft.Spoil(p)
	for n := range 200 {
		e := step(0, 0)
		if n%3 == 2 {
			e = entry(api.EnCollect+n%2, 0, 0)
		}
		m.Do(e)
		want.Do(e)
	}
	if !m.Ended() || !slices.Equal(m.Trace(), want.Trace()) || m.Stats() != want.Stats() {
		t.Errorf("%v, %v, want %v, %v", m.Trace(), m.Stats(), want.Trace(), want.Stats())
	}
}

// Two machines with one program know nothing of each other, and do the same if they are told the same.
func TestMachinesAreApart(t *testing.T) {
	p := program(fun(0, kinds(num, num, ptr(node)), do(api.OpGet, 0, gNum), show(0), cons(1, 1), do(api.OpAdd, 0, 0, 1), do(api.OpSet, gNum, 0), do(api.OpNew, 2, node), do(api.OpSet, gNode, 2), do(api.OpJump, 0)))
	x, y, z := begin(t, wide(1), p), begin(t, wide(1), p), begin(t, wide(1), p)
	for n := range 40 {
		x.Do(step(0, 0))
		if n < 4 {
			y.Do(step(0, 0))
		}
		z.Do(step(0, 0))
	}
	if !slices.Equal(y.Trace(), prints(0, 0)) || y.Stats().Objects != 0 {
		t.Errorf("%v, %v", y.Trace(), y.Stats())
	}
	if !slices.Equal(x.Trace(), prints(0, 0, 1, 2, 3, 4)) || !slices.Equal(x.Trace(), z.Trace()) || x.Stats() != z.Stats() {
		t.Errorf("%v, %v, want %v, %v", x.Trace(), x.Stats(), z.Trace(), z.Stats())
	}
}

func TestNilMachine(t *testing.T) {
	var m *machine.Machine
	for kind := -1; kind <= api.EnScav+1; kind++ {
		for _, p := range []int{least, -1, 0, 1, greatest} {
			if m.Do(entry(kind, p, 9)) {
				t.Errorf("Do of the kind %d: true", kind)
			}
		}
	}
	for _, n := range []int{least, -1, 0, 1, greatest} {
		if m.State(n) != api.GNone || m.Current(n) != -1 {
			t.Errorf("%d: %d, %d", n, m.State(n), m.Current(n))
		}
	}
	if len(m.Trace()) != 0 || len(m.Moves()) != 0 || m.Ended() || m.Stats() != (api.Stats{}) {
		t.Errorf("%v, %v, %v, %v", m.Trace(), m.Moves(), m.Ended(), m.Stats())
	}
}
