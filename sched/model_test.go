package sched_test

import (
	"slices"
	"testing"

	"treadle/api"
	"treadle/sched"
)

// sleeper is a timer of the model.
type sleeper struct {
	p    int
	when uint64
	g    int
}

// unit is what the model has of a processor: what it goes on with (one or none) and how often it did, its next one (one or none), and its queue.
type unit struct {
	on, next, line []int
	runs           int
}

// model is plain lists: of each processor, of all, and one of the timers in the order of adding, which is gone through for each answer.
type model struct {
	units    []unit
	all      []int
	sleepers []sleeper
	states   []int
	clock    uint64
}

// cut is a list's first number, if it has one, and takes it away.
func cut(list *[]int) (int, bool) {
	if len(*list) == 0 {
		return 0, false
	}
	g := (*list)[0]
	*list = slices.Clone((*list)[1:])
	return g, true
}

// isProc tells whether the model has such a processor.
func (m *model) isProc(p int) bool {
	return p >= 0 && p < len(m.units)
}

func (m *model) begin(p int) (int, api.Errno) {
	if !m.isProc(p) {
		return 0, api.ErrArg
	}
	g := len(m.states)
	if g == 64 {
		return 0, api.ErrFull
	}
	m.states = append(m.states, api.GReady)
	m.put(p, g)
	return g, api.OK
}

// put makes a goroutine a processor's next one.
func (m *model) put(p, g int) {
	own := &m.units[p]
	m.states[g] = api.GReady
	if was, found := cut(&own.next); found {
		if len(own.line) == 8 {
			m.all = append(append(m.all, own.line[:4]...), was)
			own.line = slices.Clone(own.line[4:])
		} else {
			own.line = append(own.line, was)
		}
	}
	own.next = []int{g}
}

// others are the processors beside p, from start on.
func (m *model) others(p, start int) []int {
	var list []int
	first := modulo(start, len(m.units))
	for i := range m.units {
		if at := (first + i) % len(m.units); at != p {
			list = append(list, at)
		}
	}
	return list
}

// get takes a goroutine for a processor.
func (m *model) get(p, start int) (int, bool) {
	own := &m.units[p]
	for _, list := range []*[]int{&own.next, &own.line, &m.all} {
		if g, found := cut(list); found {
			return g, true
		}
	}
	for _, at := range m.others(p, start) {
		victim := &m.units[at]
		if n := len(victim.line); n > 0 {
			taken := (n + 1) / 2
			g := victim.line[0]
			own.line = slices.Clone(victim.line[1:taken])
			victim.line = slices.Clone(victim.line[taken:])
			return g, true
		}
		if g, found := cut(&victim.next); found {
			return g, true
		}
	}
	return 0, false
}

// first is where the processor's timer that comes first stands in the model's list; -1, if it has none.
func (m *model) first(p int) int {
	first := -1
	for i, x := range m.sleepers {
		if x.p == p && (first < 0 || x.when < m.sleepers[first].when) {
			first = i
		}
	}
	return first
}

// due tells whether the processor's timer that comes first is due.
func (m *model) due(p int) bool {
	i := m.first(p)
	return i >= 0 && m.sleepers[i].when <= m.clock
}

// wake wakes those whose timers, of a processor's, are due.
func (m *model) wake(p int) {
	for m.due(p) {
		i := m.first(p)
		g := m.sleepers[i].g
		m.sleepers = slices.Delete(m.sleepers, i, i+1)
		m.put(p, g)
	}
}

func (m *model) act(p, start int) (int, int, api.Errno) {
	if !m.isProc(p) {
		return 0, 0, api.ErrArg
	}
	own := &m.units[p]
	if len(own.on) == 1 {
		g := own.on[0]
		if own.runs >= 16 && len(own.next)+len(own.line)+len(m.all) > 0 {
			own.on = nil
			m.all = append(m.all, g)
			return sched.Let, g, api.OK
		}
		own.runs++
		return sched.Run, g, api.OK
	}
	m.wake(p)
	g, found := m.get(p, start)
	if !found {
		g, found = m.getByTimers(p, start)
	}
	if !found {
		return sched.Idle, 0, api.OK
	}
	own.on, own.runs = []int{g}, 0
	return sched.Took, g, api.OK
}

// getByTimers takes a goroutine of another processor's timers.
func (m *model) getByTimers(p, start int) (int, bool) {
	for _, at := range m.others(p, start) {
		if !m.due(at) {
			continue
		}
		for i := range m.sleepers {
			if m.sleepers[i].p == at {
				m.sleepers[i].p = p
			}
		}
		m.wake(p)
		return m.get(p, start)
	}
	return 0, false
}

// leave takes a processor's goroutine off it.
func (m *model) leave(p int) (int, api.Errno) {
	if !m.isProc(p) {
		return 0, api.ErrArg
	}
	g, found := cut(&m.units[p].on)
	if !found {
		return 0, api.ErrNone
	}
	return g, api.OK
}

func (m *model) yield(p int) api.Errno {
	g, e := m.leave(p)
	if e == api.OK {
		m.all = append(m.all, g)
	}
	return e
}

// halt takes a processor's goroutine off it, with this state.
func (m *model) halt(p, state int) api.Errno {
	g, e := m.leave(p)
	if e == api.OK {
		m.states[g] = state
	}
	return e
}

func (m *model) sleep(p int, when uint64) api.Errno {
	g, e := m.leave(p)
	if e == api.OK {
		m.states[g] = api.GWaits
		m.sleepers = append(m.sleepers, sleeper{p, when, g})
	}
	return e
}

// sleeps tells whether a goroutine sleeps.
func (m *model) sleeps(g int) bool {
	return slices.ContainsFunc(m.sleepers, func(x sleeper) bool { return x.g == g })
}

func (m *model) ready(p, g int) api.Errno {
	switch {
	case !m.isProc(p):
		return api.ErrArg
	case m.state(g) != api.GWaits || m.sleeps(g):
		return api.ErrNone
	}
	m.put(p, g)
	return api.OK
}

func (m *model) tick(n uint64) {
	if n > 1<<40 {
		n = 1 << 40
	}
	m.clock += n
	if m.clock > 1<<40 {
		m.clock = 1 << 40
	}
}

func (m *model) state(g int) int {
	if g < 0 || g >= len(m.states) {
		return api.GNone
	}
	return m.states[g]
}

func (m *model) current(p int) int {
	if !m.isProc(p) || len(m.units[p].on) == 0 {
		return -1
	}
	return m.units[p].on[0]
}

// readies is how many goroutines are ready: those on processors and in queues, counted there.
func (m *model) readies() int {
	n := len(m.all)
	for _, own := range m.units {
		n += len(own.on) + len(own.next) + len(own.line)
	}
	return n
}

// call is a call of a script, with what it is given.
type call struct {
	kind, p, x int
	n          uint64
}

// The kinds of a call.
const (
	doBegin = iota
	doAct
	doYield
	doBlock
	doSleep
	doEnd
	doReady
	doTick
	kinds
)

// tell tells a scheduler a call, and answers all that it answers.
func tell(s *sched.Sched, c call) [3]int {
	switch c.kind {
	case doBegin:
		g, e := s.Begin(c.p)
		return [3]int{int(e), g}
	case doAct:
		what, g, e := s.Act(c.p, c.x)
		return [3]int{int(e), what, g}
	case doYield:
		return [3]int{int(s.Yield(c.p))}
	case doBlock:
		return [3]int{int(s.Block(c.p))}
	case doSleep:
		return [3]int{int(s.Sleep(c.p, c.n))}
	case doEnd:
		return [3]int{int(s.End(c.p))}
	case doReady:
		return [3]int{int(s.Ready(c.p, c.x))}
	default:
		s.Tick(c.n)
		return [3]int{}
	}
}

// expect is what the model answers to a call.
func (m *model) expect(c call) [3]int {
	switch c.kind {
	case doBegin:
		g, e := m.begin(c.p)
		return [3]int{int(e), g}
	case doAct:
		what, g, e := m.act(c.p, c.x)
		return [3]int{int(e), what, g}
	case doYield:
		return [3]int{int(m.yield(c.p))}
	case doBlock:
		return [3]int{int(m.halt(c.p, api.GWaits))}
	case doSleep:
		return [3]int{int(m.sleep(c.p, c.n))}
	case doEnd:
		return [3]int{int(m.halt(c.p, api.GDead))}
	case doReady:
		return [3]int{int(m.ready(c.p, c.x))}
	default:
		m.tick(c.n)
		return [3]int{}
	}
}

// pair is a scheduler beside a model of it, and what both were told.
type pair struct {
	t    testing.TB
	s    *sched.Sched
	m    *model
	told []call
}

func newPair(t testing.TB, procs int) *pair {
	t.Helper()
	return &pair{t: t, s: made(t, procs), m: &model{units: make([]unit, procs)}}
}

// do tells both a call, and holds all that is told against the model.
func (p *pair) do(c call) [3]int {
	p.t.Helper()
	p.told = append(p.told, c)
	got, want := tell(p.s, c), p.m.expect(c)
	if got != want {
		p.t.Errorf("the call %d, %+v: %v, want %v", len(p.told), c, got, want)
	}
	p.tellAll()
	return got
}

// tellAll holds the states, the processors' goroutines and the counts against the model, of those that there aren't, too.
func (p *pair) tellAll() {
	p.t.Helper()
	for g := -1; g <= len(p.m.states); g++ {
		state(p.t, p.s, g, p.m.state(g))
	}
	for at := -1; at <= len(p.m.units); at++ {
		current(p.t, p.s, at, p.m.current(at))
	}
	counts(p.t, p.s, p.m.clock, p.m.readies(), len(p.m.sleepers))
}

// wrong tells both calls that are refused, with a processor or a goroutine that there isn't.
func (p *pair) wrong(x int) {
	p.t.Helper()
	none := []int{-1, len(p.m.units), x | -1<<62}
	for _, at := range none {
		for kind := range doTick {
			p.do(call{kind: kind, p: at, x: x, n: 3})
		}
	}
	p.do(call{kind: doReady, p: 0, x: len(p.m.states)})
	p.do(call{kind: doReady, p: 0, x: -1})
}

// drain lets a scheduler that was told the same end every goroutine that is ready, and fails the test if one of them is met twice, or not at all, or one is met that is not ready.
func (p *pair) drain() {
	p.t.Helper()
	s := made(p.t, len(p.m.units))
	for _, c := range p.told {
		tell(s, c)
	}
	met := map[int]bool{}
	meet := func(at, g int) {
		p.t.Helper()
		if met[g] || s.State(g) != api.GReady {
			p.t.Errorf("behind %d calls: the goroutine %d is met again: %v, with the state %d", len(p.told), g, met[g], s.State(g))
		}
		met[g] = true
		want(p.t, "End", s.End(at), api.OK)
	}
	ready := readies(s)
	for at := range p.m.units {
		if g := s.Current(at); g >= 0 {
			meet(at, g)
		}
	}
	for !p.t.Failed() {
		before := readies(s)
		what, g, e := s.Act(0, 0)
		if what != sched.Took || e != api.OK {
			break
		}
		// Who is woken by this is ready, too.
		ready += readies(s) - before
		meet(0, g)
	}
	if len(met) != ready || readies(s) != 0 {
		p.t.Errorf("behind %d calls: %d are met of %d that are ready, and %d are left", len(p.told), len(met), ready, readies(s))
	}
}

// readies is how many goroutines a scheduler tells to be ready, by their states.
func readies(s *sched.Sched) int {
	n := 0
	for g := range api.MaxGs {
		if s.State(g) == api.GReady {
			n++
		}
	}
	return n
}
