package chans_test

import (
	"slices"
	"testing"

	"treadle/api"
	"treadle/chans"
)

// The roles of what stands in the model's list.
const (
	inPlace = iota
	toSend
	toReceive
)

// item is something that stands in the model's list: a value in a place, or somebody who waits.
type item struct {
	role, id int
	value    uint64
}

// pair is a channel beside a model of it: one list of all that stands there, in the order of coming, which is gone through for each answer. Each value is told from all others.
type pair struct {
	t      testing.TB
	c      *chans.Chan
	places int
	closed bool
	items  []item
	value  uint64
}

func newPair(t testing.TB, places int) *pair {
	t.Helper()
	return &pair{t: t, c: made(t, places), places: places}
}

// find is where the first of a role stands; -1, if there is none.
func (p *pair) find(role int) int {
	return slices.IndexFunc(p.items, func(x item) bool { return x.role == role })
}

// all are those of a role, in their order.
func (p *pair) all(role int) []item {
	var found []item
	for _, x := range p.items {
		if x.role == role {
			found = append(found, x)
		}
	}
	return found
}

// values are the values of a role, in their order.
func (p *pair) values(role int) []uint64 {
	var found []uint64
	for _, x := range p.all(role) {
		found = append(found, x.value)
	}
	return found
}

// cut takes what stands somewhere away.
func (p *pair) cut(at int) item {
	x := p.items[at]
	p.items = slices.Delete(p.items, at, at+1)
	return x
}

// sendModel is what the model answers to a Send.
func (p *pair) sendModel(id int, wait bool) chans.Result {
	if p.closed {
		return refused()
	}
	if at := p.find(toReceive); at >= 0 {
		return handed(p.cut(at).id, 0)
	}
	if len(p.all(inPlace)) != p.places {
		p.items = append(p.items, item{inPlace, 0, p.value})
		return done(0)
	}
	if wait {
		p.items = append(p.items, item{toSend, id, p.value})
	}
	return waits()
}

// recvModel is what the model answers to a Recv.
func (p *pair) recvModel(id int, wait bool) chans.Result {
	full, sends := p.find(inPlace), p.find(toSend)
	switch {
	case full >= 0 && sends >= 0:
		// Whoever of the two stands ahead, the places are cut by their indices from the back on.
		x, y := p.items[full], p.items[sends]
		p.cut(max(full, sends))
		p.cut(min(full, sends))
		p.items = append(p.items, item{inPlace, 0, y.value})
		return handed(y.id, x.value)
	case full >= 0:
		return done(p.cut(full).value)
	case sends >= 0:
		y := p.cut(sends)
		return handed(y.id, y.value)
	case p.closed:
		return refused()
	}
	if wait {
		p.items = append(p.items, item{toReceive, id, 0})
	}
	return waits()
}

// send sends a new value.
func (p *pair) send(id int, wait bool) {
	p.t.Helper()
	p.value++
	send(p.t, p.c, id, p.value, wait, p.sendModel(id, wait))
	p.tell()
}

func (p *pair) recv(id int, wait bool) {
	p.t.Helper()
	recv(p.t, p.c, id, wait, p.recvModel(id, wait))
	p.tell()
}

// queue queues somebody, with a new value.
func (p *pair) queue(id int, send bool) {
	p.t.Helper()
	p.value++
	p.c.Queue(id, p.value, send)
	x := item{toReceive, id, 0}
	if send {
		x = item{toSend, id, p.value}
	}
	p.items = append(p.items, x)
	p.tell()
}

func (p *pair) leave(id int) {
	p.t.Helper()
	p.c.Leave(id)
	p.items = slices.DeleteFunc(p.items, func(x item) bool { return x.role != inPlace && x.id == id })
	p.tell()
}

func (p *pair) close() {
	p.t.Helper()
	if p.closed {
		keepsClosed(p.t, p.c)
		p.tell()
		return
	}
	var ids []int
	for _, x := range append(p.all(toReceive), p.all(toSend)...) {
		ids = append(ids, x.id)
	}
	p.closed, p.items = true, p.all(inPlace)
	closes(p.t, p.c, ids...)
	p.tell()
}

// tellReady holds Ready against what the model would answer; the model is put back.
func (p *pair) tellReady(send bool) {
	p.t.Helper()
	was := slices.Clone(p.items)
	var what chans.Result
	if send {
		what = p.sendModel(0, false)
	} else {
		what = p.recvModel(0, false)
	}
	p.items = was
	if got := p.c.Ready(send); got == (what.What == chans.Waits) {
		p.t.Errorf("Ready(%v): %v beside %v", send, got, what)
	}
}

// tell holds all that is told against the model.
func (p *pair) tell() {
	p.t.Helper()
	stands(p.t, p.c, p.values(inPlace), p.values(toSend), len(p.all(toReceive)))
	closed(p.t, p.c, p.closed)
	p.tellReady(true)
	p.tellReady(false)
}

// act does one of eight calls.
func (p *pair) act(call, id int, flag bool) {
	p.t.Helper()
	switch call {
	case 0, 1:
		p.send(id, flag)
	case 2, 3:
		p.recv(id, flag)
	case 4:
		p.queue(id, flag)
	case 5:
		p.leave(id)
	case 6:
		p.queue(id, !flag)
	default:
		p.close()
	}
}

// shortCalls is how many calls short knows.
const shortCalls = 10

// short does one of ten calls.
func (p *pair) short(call int) {
	p.t.Helper()
	switch call {
	case 0, 1:
		p.send(1, call == 0)
	case 2, 3:
		p.recv(2, call == 2)
	case 4:
		p.send(2, true)
	case 5, 6:
		p.queue(1, call == 5)
	case 7, 8:
		p.leave(call - 6)
	default:
		p.close()
	}
}

// drain sends to some of those who wait, receives some of what there is, and closes the channel, so that all that stands there is told with its ids.
func (p *pair) drain() {
	p.t.Helper()
	for i := range min(len(p.items), api.MaxCap) {
		p.recv(nobody, false)
		if i%2 == 0 && len(p.all(toReceive)) > 0 {
			p.send(nobody, false)
		}
	}
	p.close()
	p.recv(nobody, true)
	p.close()
}
