package ideal

import (
	"treadle/api"
	"treadle/chans"
)

// maxCases is how many cases a select may have.
const maxCases = api.MaxList / 3

// waiter is by what a channel knows a goroutine that waits: its number, and the case of its select at which it waits (0 of another instruction).
func waiter(g *goroutine, chosen int) int {
	return g.number*maxCases + chosen
}

// oneCase is a case of a select: a send or a receive, by a channel, of a slot.
type oneCase struct {
	send          bool
	channel, slot int
}

// caseOf is the case of this number of a select.
func caseOf(ins api.Ins, number int) oneCase {
	three := ins.List[3*number:]
	return oneCase{send: three[0] == 0, channel: three[1], slot: three[2]}
}

// doChannel makes a channel, or does something by one.
func (t turn) doChannel() int {
	switch t.Op {
	case api.OpChan:
		t.set(t.A, t.makeChannel(t.f.Slots[t.A], int(t.Imm)))
	case api.OpSend:
		return t.send(t.A, t.B)
	case api.OpRecv:
		t.recv()
	case api.OpClose:
		return t.close()
	case api.OpSelect:
		return t.choose()
	}
	return fine
}

// channel is the channel in a slot; nil, if there is none.
func (t turn) channel(slot int) *chans.Chan {
	word := t.get(slot)
	if word == 0 {
		return nil
	}
	return t.things[word].channel
}

// wait lets the goroutine wait until somebody wakes it.
func (t turn) wait() {
	t.g.state = api.GWaits
}

// send sends what stands in a slot.
func (t turn) send(channel, slot int) int {
	c := t.channel(channel)
	if c == nil {
		t.wait()
		return fine
	}
	switch r := c.Send(waiter(t.g, 0), t.get(slot), true); r.What {
	case chans.Refused:
		return api.PanicChan
	case chans.Waits:
		t.wait()
	case chans.Handed:
		t.wake(r.Who, t.get(slot), false)
	}
	return fine
}

// recv receives, and tells whether there was something.
func (t turn) recv() {
	c := t.channel(t.B)
	if c == nil {
		t.wait()
		return
	}
	r := t.take(c)
	if r.What == chans.Waits {
		t.wait()
		return
	}
	t.f.receive(t.Ins, r.Value, r.What == chans.Refused)
}

// take receives by a channel. Whose value goes there instead, or comes from there, goes on.
func (t turn) take(c *chans.Chan) chans.Result {
	r := c.Recv(waiter(t.g, 0), true)
	if r.What == chans.Handed {
		t.wake(r.Who, 0, false)
	}
	return r
}

// receive writes what a recv has received.
func (f *frame) receive(ins api.Ins, value uint64, closed bool) {
	f.slots[ins.A] = value
	f.slots[ins.C] = truth(!closed)
}

// close closes a channel, and wakes who waits there.
func (t turn) close() int {
	c := t.channel(t.A)
	if c == nil {
		return api.PanicNil
	}
	waiters, open := c.Close()
	if !open {
		return api.PanicChan
	}
	for _, w := range waiters {
		t.wake(w, 0, true)
	}
	return fine
}

// wake wakes a goroutine that waits at a channel: its value was taken, or it receives one; or the channel was closed.
func (d *Ideal) wake(waiter int, value uint64, closed bool) {
	g, chosen := d.gs[waiter/maxCases], waiter%maxCases
	if g.state != api.GWaits {
		// It waited at the closed channel by several cases, and goes on by the first of them.
		return
	}
	g.state = api.GReady
	f := g.top()
	ins := f.Code[f.next-1]
	switch ins.Op {
	case api.OpSend:
		g.refused = closed
	case api.OpRecv:
		f.receive(ins, value, closed)
	case api.OpSelect:
		d.leaveCases(g, f, ins)
		f.slots[ins.A] = uint64(chosen)
		if c := caseOf(ins, chosen); c.send {
			g.refused = closed
		} else {
			f.slots[c.slot] = value
		}
	}
}

// leaveCases lets a goroutine wait no more at any case of a select.
func (d *Ideal) leaveCases(g *goroutine, f *frame, ins api.Ins) {
	for number := range len(ins.List) / 3 {
		if word := f.slots[caseOf(ins, number).channel]; word != 0 {
			d.things[word].channel.Leave(waiter(g, number))
		}
	}
}

// choose takes a case of a select that is ready, or the default, or lets the goroutine wait at all of them.
func (t turn) choose() int {
	ready := t.readyCases()
	if len(ready) > 0 {
		return t.takeCase(ready[t.choice%uint64(len(ready))])
	}
	if t.B == 1 {
		t.set(t.A, asWord(-1))
		return fine
	}
	for number := range len(t.List) / 3 {
		c := caseOf(t.Ins, number)
		if channel := t.channel(c.channel); channel != nil {
			channel.Queue(waiter(t.g, number), t.get(c.slot), c.send)
		}
	}
	t.wait()
	return fine
}

// readyCases are the numbers of the cases of a select that are ready.
func (t turn) readyCases() []int {
	var ready []int
	for number := range len(t.List) / 3 {
		c := caseOf(t.Ins, number)
		if channel := t.channel(c.channel); channel != nil && channel.Ready(c.send) {
			ready = append(ready, number)
		}
	}
	return ready
}

// takeCase does a case of a select that is ready. Its number is written first: the case may send it, or write over it.
func (t turn) takeCase(number int) int {
	c := caseOf(t.Ins, number)
	t.set(t.A, uint64(number))
	if c.send {
		return t.send(c.channel, c.slot)
	}
	t.set(c.slot, t.take(t.channel(c.channel)).Value)
	return fine
}
