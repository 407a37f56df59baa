package queue_test

import (
	"testing"

	"treadle/api"
	"treadle/queue"
)

// pair is queues beside a model of them: of each processor one list, the next one at its end, and a list for all. Numbers are given out rising, so each is told from all others.
type pair struct {
	t   testing.TB
	q   *queue.Queues
	own []procModel
	all []int
	g   int
}

// procModel is what the model has of a processor; next has one number or none.
type procModel struct {
	next, line []int
}

func newPair(t testing.TB, procs int) *pair {
	t.Helper()
	return &pair{t: t, q: made(t, procs), own: make([]procModel, procs)}
}

// isProc tells whether the model has such a processor.
func (p *pair) isProc(at int) bool {
	return at >= 0 && at < len(p.own)
}

// put puts a new number.
func (p *pair) put(at int) {
	p.t.Helper()
	p.g++
	e := api.ErrArg
	if p.isProc(at) {
		e = api.OK
		p.putModel(&p.own[at])
	}
	if got := p.q.Put(at, p.g); got != e {
		p.t.Errorf("Put(%d, %d): %d, want %d", at, p.g, got, e)
	}
	p.tellAll()
}

// putModel is what a Put does to the model.
func (p *pair) putModel(own *procModel) {
	was := own.next
	own.next = []int{p.g}
	switch {
	case len(was) > 0 && len(own.line) == 8:
		p.all = append(append(p.all, own.line[:4]...), was...)
		own.line = append([]int{}, own.line[4:]...)
	default:
		own.line = append(own.line, was...)
	}
}

// last lays a new number behind the queue for all.
func (p *pair) last() {
	p.t.Helper()
	p.g++
	p.all = append(p.all, p.g)
	want(p.t, "Last", p.q.Last(p.g), api.OK)
	p.tellAll()
}

// wrong lays a number that is none.
func (p *pair) wrong(at int) {
	p.t.Helper()
	want(p.t, "Put", p.q.Put(at, -1-p.g), api.ErrArg)
	want(p.t, "Last", p.q.Last(-1-p.g), api.ErrArg)
	p.tellAll()
}

// cut is a list's first number, if it has one, and takes it away.
func cut(list *[]int) (int, bool) {
	if len(*list) == 0 {
		return 0, false
	}
	g := (*list)[0]
	*list = (*list)[1:]
	return g, true
}

// getModel is what the model answers to a Get of a processor that there is.
func (p *pair) getModel(at, start int) (int, bool) {
	own := &p.own[at]
	for _, list := range []*[]int{&own.next, &own.line, &p.all} {
		if g, found := cut(list); found {
			return g, true
		}
	}
	for i := range p.own {
		from := (modulo(start, len(p.own)) + i) % len(p.own)
		if from == at {
			continue
		}
		victim := &p.own[from]
		if n := len(victim.line); n > 0 {
			own.line = append([]int{}, victim.line[1:(n+1)/2]...)
			g := victim.line[0]
			victim.line = victim.line[(n+1)/2:]
			return g, true
		}
		if g, found := cut(&victim.next); found {
			return g, true
		}
	}
	return 0, false
}

func (p *pair) get(at, start int) bool {
	p.t.Helper()
	g, found := 0, false
	if p.isProc(at) {
		g, found = p.getModel(at, start)
	}
	if got, is := p.q.Get(at, start); got != g || is != found {
		p.t.Errorf("Get(%d, %d): %d, %v, want %d, %v", at, start, got, is, g, found)
	}
	p.tellAll()
	return found
}

// tellAll holds all that is told against the model, of processors that there aren't, too.
func (p *pair) tellAll() {
	p.t.Helper()
	for at := -1; at <= len(p.own); at++ {
		own, all := 0, 0
		if p.isProc(at) {
			own, all = len(p.own[at].next)+len(p.own[at].line), len(p.all)
		}
		waiting(p.t, p.q, at, own, all)
	}
}

// act does one of six calls.
func (p *pair) act(call, x, y int) {
	p.t.Helper()
	switch call {
	case 0, 1:
		p.put(x)
	case 2:
		p.last()
	case 3:
		p.wrong(x)
	default:
		p.get(x, y)
	}
}

// drain takes all that there is, by the last processor.
func (p *pair) drain() {
	p.t.Helper()
	for p.get(len(p.own)-1, p.g) && !p.t.Failed() {
	}
}
