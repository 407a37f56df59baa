package ideal

import (
	"treadle/api"
	"treadle/chans"
	"treadle/sense"
)

// doChannel makes a channel, or does something by one.
func (t turn) doChannel() int {
	switch t.Op {
	case api.OpChan:
		t.set(t.A, t.makeChannel(t.f.Slots[t.A], int(t.Imm)))
	case api.OpSend:
		return t.send(t.A, t.B)
	case api.OpRecv:
		t.recv()
	case api.OpClose:
		return t.close()
	case api.OpSelect:
		return t.choose()
	}
	return fine
}

// channel is the channel in a slot; nil, if there is none.
func (t turn) channel(slot int) *chans.Chan {
	word := t.get(slot)
	if word == 0 {
		return nil
	}
	return t.things[word].channel
}

// wait lets the goroutine wait until somebody wakes it.
func (t turn) wait() {
	t.g.state = api.GWaits
}

// send sends what stands in a slot.
func (t turn) send(channel, slot int) int {
	c := t.channel(channel)
	if c == nil {
		t.wait()
		return fine
	}
	switch r := c.Send(sense.Waiter(t.g.number, 0), t.get(slot), true); r.What {
	case chans.Refused:
		return api.PanicChan
	case chans.Waits:
		t.wait()
	case chans.Handed:
		t.wake(r.Who, t.get(slot), false)
	}
	return fine
}

// recv receives, and tells whether there was something.
func (t turn) recv() {
	c := t.channel(t.B)
	if c == nil {
		t.wait()
		return
	}
	r := t.take(c)
	if r.What == chans.Waits {
		t.wait()
		return
	}
	t.f.receive(t.Ins, r.Value, r.What == chans.Refused)
}

// take receives by a channel. Whose value goes there instead, or comes from there, goes on.
func (t turn) take(c *chans.Chan) chans.Result {
	r := c.Recv(sense.Waiter(t.g.number, 0), true)
	if r.What == chans.Handed {
		t.wake(r.Who, 0, false)
	}
	return r
}

// receive writes what a recv has received.
func (f *frame) receive(ins api.Ins, value uint64, closed bool) {
	f.slots[ins.A] = value
	f.slots[ins.C] = sense.Truth(!closed)
}

// close closes a channel, and wakes who waits there.
func (t turn) close() int {
	c := t.channel(t.A)
	if c == nil {
		return api.PanicNil
	}
	waiters, open := c.Close()
	if !open {
		return api.PanicChan
	}
	for _, w := range waiters {
		t.wake(w, 0, true)
	}
	return fine
}

// wake wakes a goroutine that waits at a channel: its value was taken, or it receives one; or the channel was closed.
func (d *Ideal) wake(waiter int, value uint64, closed bool) {
	number, chosen := sense.Waits(waiter)
	g := d.gs[number]
	if g.state != api.GWaits {
		// It waited at the closed channel by several cases, and goes on by the first of them.
		return
	}
	g.state = api.GReady
	f := g.top()
	ins := f.Code[f.next-1]
	switch ins.Op {
	case api.OpSend:
		g.refused = closed
	case api.OpRecv:
		f.receive(ins, value, closed)
	case api.OpSelect:
		d.leaveCases(g, f, ins)
		f.slots[ins.A] = uint64(chosen)
		if c := sense.CaseOf(ins, chosen); c.Send {
			g.refused = closed
		} else {
			f.slots[c.Slot] = value
		}
	}
}

// leaveCases lets a goroutine wait no more at any case of a select.
func (d *Ideal) leaveCases(g *goroutine, f *frame, ins api.Ins) {
	for number := range sense.Cases(ins) {
		if word := f.slots[sense.CaseOf(ins, number).Channel]; word != 0 {
			d.things[word].channel.Leave(sense.Waiter(g.number, number))
		}
	}
}

// choose takes a case of a select that is ready, or the default, or lets the goroutine wait at all of them.
func (t turn) choose() int {
	ready := t.readyCases()
	if len(ready) > 0 {
		return t.takeCase(ready[t.choice%uint64(len(ready))])
	}
	if t.B == 1 {
		t.set(t.A, asWord(-1))
		return fine
	}
	for number := range sense.Cases(t.Ins) {
		c := sense.CaseOf(t.Ins, number)
		if channel := t.channel(c.Channel); channel != nil {
			channel.Queue(sense.Waiter(t.g.number, number), t.get(c.Slot), c.Send)
		}
	}
	t.wait()
	return fine
}

// readyCases are the numbers of the cases of a select that are ready.
func (t turn) readyCases() []int {
	var ready []int
	for number := range sense.Cases(t.Ins) {
		c := sense.CaseOf(t.Ins, number)
		if channel := t.channel(c.Channel); channel != nil && channel.Ready(c.Send) {
			ready = append(ready, number)
		}
	}
	return ready
}

// takeCase does a case of a select that is ready. Its number is written first: the case may send it, or write over it.
func (t turn) takeCase(number int) int {
	c := sense.CaseOf(t.Ins, number)
	t.set(t.A, uint64(number))
	if c.Send {
		return t.send(c.Channel, c.Slot)
	}
	t.set(c.Slot, t.take(t.channel(c.Channel)).Value)
	return fine
}
