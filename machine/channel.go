package machine

import (
	"maps"

	"treadle/api"
	"treadle/chans"
	"treadle/sense"
)

// fewChannels is how many channels may be made, at least, ahead of the next look for those that the heap has freed.
const fewChannels = 256

// channel is what the machine knows of an object that is a channel. The object's own words tell nothing: what goes by the channel stands here.
type channel struct {
	*chans.Chan
	of api.Kind // what goes by it
}

// pointers tells where what stands in the channel's places leads, and what those who wait will send.
func (c channel) pointers(found func(p int) bool) {
	for _, w := range c.Values() {
		if leads(c.of, w) && !found(int(w)) {
			return
		}
	}
}

// doChannel makes a channel, or does something by one.
func (t turn) doChannel() int {
	switch t.Op {
	case api.OpChan:
		t.makeChannel()
	case api.OpSend:
		return t.send(t.A, t.B)
	case api.OpRecv:
		t.recv()
	case api.OpClose:
		return t.close()
	case api.OpSelect:
		return t.choose()
	}
	return fine
}

// makeChannel makes a channel of Imm places: an object of as many words, and two.
func (t turn) makeChannel() {
	t.forget()
	// The program was found right: there are not too many places.
	made, _ := chans.New(int(t.Imm))
	c := channel{made, t.f.Slots[t.A] - api.Chan}
	p := t.alloc(t.p, make([]bool, t.Imm+2))
	t.heap.Refs(p, c.pointers)
	t.channels[p] = c
	t.set(t.A, uint64(p))
}

// forget lets go the channels that the heap has freed, now and then: as many as are left may be made ahead of the next time, so that looking takes no longer than making.
func (m *Machine) forget() {
	if m.toMake > 0 {
		m.toMake--
		return
	}
	maps.DeleteFunc(m.channels, func(p int, _ channel) bool { return !m.heap.Has(p) })
	m.toMake = max(fewChannels, len(m.channels))
}

// channel is the channel to which a slot leads; false: to none.
func (t turn) channel(slot int) (channel, bool) {
	c, ok := t.channels[int(t.get(slot))]
	return c, ok
}

// wait lets the goroutine wait until somebody wakes it.
func (t turn) wait() {
	t.sched.Block(t.p)
}

// send sends what stands in a slot.
func (t turn) send(by, slot int) int {
	c, ok := t.channel(by)
	if !ok {
		t.wait()
		return fine
	}
	switch r := c.Send(sense.Waiter(t.g.number, 0), t.get(slot), true); r.What {
	case chans.Refused:
		return api.PanicChan
	case chans.Waits:
		t.wait()
	case chans.Handed:
		t.wake(r.Who, t.get(slot), false)
	}
	return fine
}

// recv receives, and tells whether there was something.
func (t turn) recv() {
	c, ok := t.channel(t.B)
	if !ok {
		t.wait()
		return
	}
	r := t.take(c)
	if r.What == chans.Waits {
		t.wait()
		return
	}
	t.receive(t.g, t.f, t.Ins, r.Value, r.What == chans.Refused)
}

// take receives by a channel: what it has led to, it may not lead to any more. Whose value goes there instead, or comes from there, goes on.
func (t turn) take(c channel) chans.Result {
	r := c.Recv(sense.Waiter(t.g.number, 0), true)
	if leads(c.of, r.Value) {
		t.shade(int(r.Value))
	}
	if r.What == chans.Handed {
		t.wake(r.Who, 0, false)
	}
	return r
}

// receive writes what a recv has received.
func (m *Machine) receive(g *goroutine, f *frame, ins api.Ins, value uint64, closed bool) {
	m.write(g, f, ins.A, value)
	m.write(g, f, ins.C, sense.Truth(!closed))
}

// close closes a channel, and wakes who waits there.
func (t turn) close() int {
	c, ok := t.channel(t.A)
	if !ok {
		return api.PanicNil
	}
	c.pointers(t.shade)
	waiters, open := c.Close()
	if !open {
		return api.PanicChan
	}
	for _, w := range waiters {
		t.wake(w, 0, true)
	}
	return fine
}

// wake wakes a goroutine that waits at a channel: its value was taken, or it receives one; or the channel was closed.
func (t turn) wake(waiter int, value uint64, closed bool) {
	number, chosen := sense.Waits(waiter)
	if t.sched.Ready(t.p, number) != api.OK {
		// It has waited at the closed channel by several cases, and goes on by the first of them.
		return
	}
	g := t.gs[number]
	f := g.top()
	switch ins := f.Code[f.next-1]; ins.Op {
	case api.OpSend:
		g.refused = closed
	case api.OpRecv:
		t.receive(g, f, ins, value, closed)
	case api.OpSelect:
		t.leaveCases(g, f, ins)
		t.write(g, f, ins.A, uint64(chosen))
		if c := sense.CaseOf(ins, chosen); c.Send {
			g.refused = closed
		} else {
			t.write(g, f, c.Slot, value)
		}
	}
}

// leaveCases lets a goroutine wait no more at any case of a select.
func (m *Machine) leaveCases(g *goroutine, f *frame, ins api.Ins) {
	for number := range sense.Cases(ins) {
		word := m.slot(g, f, sense.CaseOf(ins, number).Channel)
		if c, ok := m.channels[int(word)]; ok {
			c.pointers(m.shade)
			c.Leave(sense.Waiter(g.number, number))
		}
	}
}

// choose takes a case of a select that is ready, or the default, or lets the goroutine wait at all of them.
func (t turn) choose() int {
	if ready := t.readyCases(); len(ready) > 0 {
		return t.takeCase(ready[t.choice%uint64(len(ready))])
	}
	if t.B == 1 {
		t.set(t.A, asWord(-1))
		return fine
	}
	for number := range sense.Cases(t.Ins) {
		at := sense.CaseOf(t.Ins, number)
		if c, ok := t.channel(at.Channel); ok {
			c.Queue(sense.Waiter(t.g.number, number), t.get(at.Slot), at.Send)
		}
	}
	t.wait()
	return fine
}

// readyCases are the numbers of the cases of a select that are ready.
func (t turn) readyCases() []int {
	var ready []int
	for number := range sense.Cases(t.Ins) {
		at := sense.CaseOf(t.Ins, number)
		if c, ok := t.channel(at.Channel); ok && c.Ready(at.Send) {
			ready = append(ready, number)
		}
	}
	return ready
}

// takeCase does a case of a select that is ready. Its number is written first: the case may send it, or write over it.
func (t turn) takeCase(number int) int {
	at := sense.CaseOf(t.Ins, number)
	t.set(t.A, uint64(number))
	if at.Send {
		return t.send(at.Channel, at.Slot)
	}
	c, _ := t.channel(at.Channel)
	t.set(at.Slot, t.take(c).Value)
	return fine
}
