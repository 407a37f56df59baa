package mark_test

import (
	"fmt"
	"slices"
	"testing"

	"treadle/api"
	"treadle/mark"
)

// place is a place of the model's roots: it knows itself whether it was gone through.
type place struct {
	id      int
	through bool
}

// pair is a graph beside a model of it that has no colours: when a cycle begins, it looks what can be reached. Those are gone through, one a piece of work, whatever happens meanwhile; all others are doomed, and freed in the order of their numbers.
type pair struct {
	t       testing.TB
	g       *mark.Graph
	made    int
	objects map[int][]int
	roots   []place
	phase   int
	cycles  int
	left    int
	doomed  []int
}

func newPair(t testing.TB) *pair {
	t.Helper()
	return &pair{t: t, g: mark.New(), objects: map[int][]int{}}
}

// reached are the objects that can be reached from the roots.
func (p *pair) reached() map[int]bool {
	seen := map[int]bool{}
	var visit func(id int)
	visit = func(id int) {
		if id == 0 || seen[id] {
			return
		}
		seen[id] = true
		fields, there := p.objects[id]
		if !there {
			p.t.Errorf("%d can be reached, but was freed", id)
		}
		for _, to := range fields {
			visit(to)
		}
	}
	for _, r := range p.roots {
		visit(r.id)
	}
	return seen
}

// held are the roots of the model.
func (p *pair) held() []int {
	var ids []int
	for _, r := range p.roots {
		ids = append(ids, r.id)
	}
	return ids
}

// look is why a field of a root can't be asked for.
func (p *pair) look(id, field int) api.Errno {
	if !slices.Contains(p.held(), id) {
		return api.ErrNone
	}
	if field < 0 || field >= len(p.objects[id]) {
		return api.ErrArg
	}
	return api.OK
}

// add makes an object of both.
func (p *pair) add(fields int) {
	id, e := 0, api.OK
	switch {
	case fields < 0 || fields > 16:
		e = api.ErrArg
	case p.made >= 4096:
		e = api.ErrFull
	default:
		p.made++
		id = p.made
		p.objects[id] = make([]int, fields)
		p.roots = append(p.roots, place{id: id})
	}
	if got, now := p.g.Add(fields); got != id || now != e {
		p.t.Errorf("Add(%d): %d, %d, want %d, %d", fields, got, now, id, e)
	}
	p.tell()
}

// drop lets a root of both go.
func (p *pair) drop(at int) {
	e := api.ErrArg
	if at >= 0 && at < len(p.roots) {
		e = api.OK
		p.roots = slices.Delete(slices.Clone(p.roots), at, at+1)
	}
	want(p.t, fmt.Sprintf("Drop(%d)", at), p.g.Drop(at), e)
	p.tell()
}

// root makes what a field leads to a root of both.
func (p *pair) root(id, field int) {
	e := p.look(id, field)
	if e == api.OK {
		switch to := p.objects[id][field]; {
		case to == 0:
			e = api.ErrNone
		case len(p.roots) >= 4096:
			e = api.ErrFull
		default:
			p.roots = append(p.roots, place{id: to})
		}
	}
	rootFails(p.t, p.g, id, field, e)
	p.tell()
}

// set lets a field of both lead to something else.
func (p *pair) set(id, field, to int) {
	e := p.look(id, field)
	if to != 0 && !slices.Contains(p.held(), to) {
		e = api.ErrNone
	}
	if e == api.OK {
		p.objects[id][field] = to
	}
	setFails(p.t, p.g, id, field, to, e)
	p.tell()
}

// tellField holds what a field of both leads to against each other.
func (p *pair) tellField(id, field int) {
	if e := p.look(id, field); e != api.OK {
		getFails(p.t, p.g, id, field, e)
		return
	}
	gets(p.t, p.g, id, field, p.objects[id][field])
}

// start begins a cycle of both.
func (p *pair) start() {
	e := api.ErrState
	if p.phase == 0 {
		e = api.OK
		p.phase = 1
		reached := p.reached()
		p.left = len(reached)
		for id := 1; id <= p.made; id++ {
			if _, there := p.objects[id]; there && !reached[id] {
				p.doomed = append(p.doomed, id)
			}
		}
		for i := range p.roots {
			p.roots[i].through = false
		}
	}
	want(p.t, "Start", p.g.Start(), e)
	p.tell()
}

// work does a piece of work of both.
func (p *pair) work() {
	id, e := p.piece()
	if got, now := p.g.Work(); got != id || now != e {
		p.t.Errorf("Work: %d, %d, want %d, %d", got, now, id, e)
	}
	p.tell()
}

// piece does a piece of the model's work.
func (p *pair) piece() (int, api.Errno) {
	next := slices.IndexFunc(p.roots, func(r place) bool { return !r.through })
	switch {
	case p.phase == 0:
		return 0, api.ErrState
	case p.phase == 1 && next >= 0:
		p.roots[next].through = true
	case p.phase == 1 && p.left > 0:
		p.left--
	case p.phase == 1:
		p.phase = 2
	case len(p.doomed) > 0:
		id := p.doomed[0]
		p.doomed = p.doomed[1:]
		if p.reached()[id] {
			p.t.Errorf("%d is freed, but can be reached", id)
		}
		delete(p.objects, id)
		return id, api.OK
	default:
		p.phase = 0
		p.cycles++
	}
	return 0, api.OK
}

// tell holds what both tell of the whole against each other.
func (p *pair) tell() {
	counts(p.t, p.g, p.phase, p.cycles, len(p.objects))
	roots(p.t, p.g, p.held()...)
}

// tellAll holds all that both tell against each other.
func (p *pair) tellAll() {
	p.tell()
	for id := -1; id <= p.made+1; id++ {
		_, there := p.objects[id]
		has(p.t, p.g, there, id)
		for field := -1; field <= 3; field++ {
			p.tellField(id, field)
		}
	}
}

// collect goes on to the end of the cycle, and through a whole one, behind which there is no more than what can be reached.
func (p *pair) collect() {
	p.tellAll()
	p.finish()
	p.start()
	p.finish()
	p.tellAll()
	counts(p.t, p.g, mark.Off, p.cycles, len(p.reached()))
}

func (p *pair) finish() {
	for p.phase != 0 && !p.t.Failed() {
		p.work()
	}
}

// The calls that act knows, and two of them.
const (
	calls    = 10
	callDrop = 1
	callWork = 8
)

// act does one of ten calls. Objects are mostly named by places of the roots.
func (p *pair) act(call, a, b, c int) {
	switch call {
	case 0:
		p.add(b)
	case callDrop:
		p.drop(a)
	case 2:
		p.root(p.at(a), b)
	case 3, 4, 5:
		p.set(p.at(a), b, p.at(c))
	case 6:
		p.set(a, b, c)
	case 7:
		p.start()
	default:
		p.work()
	}
	p.tellField(p.at(a), b)
	p.tellField(a, b)
	_, there := p.objects[a]
	has(p.t, p.g, there, a)
}

// at is the root at a place; 0, if there is none.
func (p *pair) at(place int) int {
	if place < 0 || place >= len(p.roots) {
		return 0
	}
	return p.roots[place].id
}

// shortCalls is how many calls short knows.
const shortCalls = 12

// short does one of twelve calls.
func (p *pair) short(call int) {
	last := len(p.roots) - 1
	switch call {
	case 0:
		p.add(1)
	case 1:
		p.drop(0)
	case 2:
		p.drop(1)
	case 3:
		p.drop(last)
	case 4:
		p.root(p.at(0), 0)
	case 5:
		p.root(p.at(last), 0)
	case 6:
		p.set(p.at(0), 0, p.at(last))
	case 7:
		p.set(p.at(last), 0, p.at(0))
	case 8:
		p.set(p.at(0), 0, 0)
	case 9:
		p.set(p.at(1), 0, p.at(2))
	case 10:
		p.start()
	default:
		p.work()
	}
}
