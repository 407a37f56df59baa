package timer_test

import (
	"math"
	"slices"
	"testing"

	"treadle/api"
	"treadle/timer"
)

// wait is a timer of the model.
type wait struct {
	p    int
	when uint64
	id   int
}

// pair is timers beside a model of them: one list, in the order of adding, which is gone through for each answer.
type pair struct {
	t     testing.TB
	x     *timer.Timers
	procs int
	waits []wait
	id    int
}

func newPair(t testing.TB, procs int) *pair {
	t.Helper()
	return &pair{t: t, x: made(t, procs), procs: procs}
}

// isProc tells whether the model has such a processor.
func (p *pair) isProc(at int) bool {
	return at >= 0 && at < p.procs
}

// add adds a timer with a new number.
func (p *pair) add(at int, when uint64) {
	p.t.Helper()
	p.id++
	e := api.ErrArg
	switch {
	case p.isProc(at) && len(p.waits) == api.MaxTimers:
		e = api.ErrFull
	case p.isProc(at):
		e = api.OK
		p.waits = append(p.waits, wait{at, when, p.id})
	}
	if got := p.x.Add(at, when, p.id); got != e {
		p.t.Errorf("Add(%d, %d, %d) beside %d: %d, want %d", at, when, p.id, len(p.waits), got, e)
	}
	p.tellAll()
}

// first is where the processor's timer that comes first stands in the model's list; -1, if it has none.
func (p *pair) first(at int) int {
	first := -1
	for i, w := range p.waits {
		if w.p == at && (first < 0 || w.when < p.waits[first].when) {
			first = i
		}
	}
	return first
}

func (p *pair) due(at int, now uint64) {
	p.t.Helper()
	var ids []int
	for {
		i := p.first(at)
		if i < 0 || p.waits[i].when > now {
			break
		}
		ids = append(ids, p.waits[i].id)
		p.waits = slices.Delete(p.waits, i, i+1)
	}
	due(p.t, p.x, at, now, ids...)
	p.tellAll()
}

func (p *pair) move(from, to int) {
	p.t.Helper()
	e := api.ErrArg
	if p.isProc(from) && p.isProc(to) {
		e = api.OK
		for i := range p.waits {
			if p.waits[i].p == from {
				p.waits[i].p = to
			}
		}
	}
	if got := p.x.Move(from, to); got != e {
		p.t.Errorf("Move(%d, %d): %d, want %d", from, to, got, e)
	}
	p.tellAll()
}

// tellAll holds all that is told against the model, of processors that there aren't, too.
func (p *pair) tellAll() {
	p.t.Helper()
	count(p.t, p.x, len(p.waits))
	for at := -1; at <= p.procs; at++ {
		if i := p.first(at); i >= 0 {
			next(p.t, p.x, at, p.waits[i].when)
		} else {
			empty(p.t, p.x, at)
		}
	}
}

// short does one of seven calls.
func (p *pair) short(call int) {
	p.t.Helper()
	switch call {
	case 0:
		p.add(0, 2)
	case 1:
		p.add(1, 2)
	case 2:
		p.add(0, 1)
	case 3:
		p.add(1, 3)
	case 4:
		p.due(1, 2)
	case 5:
		p.move(0, 1)
	default:
		p.move(1, 0)
	}
}

// drain takes all that there are.
func (p *pair) drain() {
	p.t.Helper()
	for at := range p.procs {
		p.due(at, math.MaxUint64)
	}
}
