package ideal_test

import (
	"iter"
	"math"
	"slices"

	"treadle/api"
)

// value is what a slot, a field or a global of the model holds: a word, or what it leads to.
type value struct {
	bits   uint64
	object *object
	pipe   *pipe
	slot   *value
}

// object is an object of the model, or an array.
type object struct {
	kinds []api.Kind // of its cells, or, of an array, the one of all
	array bool
	cells []value
}

// pipe is a channel of the model, without those who wait.
type pipe struct {
	of     api.Kind
	places int
	closed bool
	full   []value
}

// waiter is somebody who waits at a channel, by a case of a select (0 of another instruction).
type waiter struct {
	who    *fiber
	number int
	at     *pipe
	send   bool
	value  value
}

// later is a call that a frame has put off.
type later struct {
	f         api.Func
	arguments []value
}

// level is a frame of the model.
type level struct {
	f       api.Func
	slots   []value
	at      int
	putOff  []later
	results []value
}

// fiber is a goroutine of the model: a function that calls itself for each frame, and hands over ahead of each instruction.
type fiber struct {
	number    int
	state     int
	sleeps    bool
	until     uint64
	refused   bool
	panics    bool
	with      uint64
	levels    []*level
	choice    uint64
	resume    func() (struct{}, bool)
	stop      func()
	handsOver func(struct{}) bool
}

// model is a run, by functions that call themselves: a frame's end is a function's end.
type model struct {
	p       api.Program
	globals []value
	fibers  []*fiber
	waiting []waiter // all of them, in the order of coming
	clock   uint64
	trace   []api.Event
	ended   bool
	doubt   bool           // the document doesn't say plainly what comes next
	met     map[string]int // how often something was met
}

func newModel(p api.Program) *model {
	m := &model{p: p, globals: make([]value, len(p.Globals)), met: map[string]int{}}
	m.begin(later{f: p.Funcs[0]})
	return m
}

// close lets all fibers go.
func (m *model) close() {
	for _, x := range m.fibers {
		x.stop()
	}
}

// stopped is thrown in a fiber that is let go.
type stopped struct{}

// begin begins a fiber, which stands ahead of its first instruction then.
func (m *model) begin(c later) {
	x := &fiber{number: len(m.fibers), state: api.GReady}
	m.fibers = append(m.fibers, x)
	x.resume, x.stop = iter.Pull(func(yield func(struct{}) bool) {
		defer func() {
			if r := recover(); r != nil && r != (stopped{}) {
				panic(r)
			}
		}()
		x.handsOver = yield
		_, thrown := m.frame(x, c, false)
		x.state = api.GDead
		switch {
		case thrown:
			m.end(x, api.EvPanic, x.with)
		case x.number == 0:
			m.end(x, api.EvExit, 0)
		}
	})
	x.resume()
}

// frame is a frame's life: what it returns, or whether a panic goes through it.
func (m *model) frame(x *fiber, c later, byPanic bool) ([]value, bool) {
	l := &level{f: c.f, slots: make([]value, len(c.f.Slots))}
	copy(l.slots, c.arguments)
	x.levels = append(x.levels, l)
	thrown := m.body(x, l, byPanic)
	for len(l.putOff) > 0 {
		last := len(l.putOff) - 1
		c := l.putOff[last]
		l.putOff = l.putOff[:last]
		_, again := m.frame(x, c, thrown)
		if again {
			thrown = true
		} else if thrown && !x.panics {
			thrown = false
			l.results = make([]value, len(l.f.Results))
		}
	}
	x.levels = x.levels[:len(x.levels)-1]
	return l.results, thrown
}

// body are a frame's instructions, up to its end, or to a panic.
func (m *model) body(x *fiber, l *level, byPanic bool) bool {
	for {
		if !x.handsOver(struct{}{}) {
			panic(stopped{})
		}
		if x.refused {
			x.refused = false
			m.met["refused"]++
			return m.throw(x, api.PanicChan)
		}
		ins := l.f.Code[l.at]
		l.at++
		switch ins.Op {
		case api.OpRet:
			l.results = m.pick(l, ins.List)
			return false
		case api.OpCall:
			if m.callFrame(x, l, ins) {
				return true
			}
		case api.OpRecover:
			m.recover(x, l, ins, byPanic)
		default:
			if number := m.do(x, l, ins); number != 0 {
				return m.throw(x, number)
			}
			if x.panics && ins.Op == api.OpPanic {
				return true
			}
		}
	}
}

// throw lets a fiber panic.
func (m *model) throw(x *fiber, number int) bool {
	if x.panics {
		m.met["in the place"]++
	}
	x.panics, x.with = true, uint64(number)
	return true
}

// pick are what stands in slots.
func (m *model) pick(l *level, slots []int) []value {
	var list []value
	for _, s := range slots {
		list = append(list, l.slots[s])
	}
	return list
}

// callFrame is a call; it tells whether a panic goes through the frame.
func (m *model) callFrame(x *fiber, l *level, ins api.Ins) bool {
	if len(x.levels) == 64 {
		return m.throw(x, api.PanicDepth)
	}
	f := m.p.Funcs[ins.A]
	results, thrown := m.frame(x, later{f, m.pick(l, ins.List[:f.Params])}, false)
	if thrown {
		return true
	}
	for i, s := range ins.List[f.Params:] {
		l.slots[s] = results[i]
	}
	return false
}

func (m *model) recover(x *fiber, l *level, ins api.Ins, byPanic bool) {
	a, b := value{}, value{}
	if byPanic && x.panics {
		m.met["recovered"]++
		a.bits, b.bits = x.with, 1
		x.panics = false
	}
	l.slots[ins.A] = a
	l.slots[ins.B] = b
}

func (m *model) end(x *fiber, kind int, n uint64) {
	m.ended = true
	m.trace = append(m.trace, api.Event{Kind: kind, G: x.number, Value: n})
}

// step lets a goroutine go on.
func (m *model) step(g int, choice uint64) api.Errno {
	if g < 0 || g >= len(m.fibers) {
		return api.ErrNone
	}
	x := m.fibers[g]
	if m.ended || x.state != api.GReady {
		return api.ErrState
	}
	x.choice = choice
	x.resume()
	for _, other := range m.fibers {
		if m.ended || other.state == api.GReady || other.sleeps {
			return api.OK
		}
	}
	m.end(x, api.EvDead, 0)
	return api.OK
}

func (m *model) tick(n uint64) api.Errno {
	if m.ended {
		return api.ErrState
	}
	if n > 1<<40 {
		n = 1 << 40
	}
	m.clock = min(m.clock+n, 1<<40)
	for _, x := range m.fibers {
		if x.sleeps && x.until <= m.clock {
			x.sleeps, x.state = false, api.GReady
			m.met["slept"]++
		}
	}
	return api.OK
}

// next is a goroutine's next instruction.
func (m *model) next(g int) (api.Ins, bool) {
	x := m.fibers[g]
	if m.ended || x.state != api.GReady || x.refused {
		return api.Ins{}, false
	}
	l := x.levels[len(x.levels)-1]
	return l.f.Code[l.at], true
}

// do does an instruction that stays in its frame, and answers the number with which the machine panics instead.
func (m *model) do(x *fiber, l *level, ins api.Ins) int {
	s := l.slots
	switch ins.Op {
	case api.OpConst:
		s[ins.A] = value{bits: ins.Imm}
		if l.f.Slots[ins.A] == flt {
			s[ins.A] = floatOf(math.Float64frombits(ins.Imm))
		}
	case api.OpMove:
		s[ins.A] = s[ins.B]
	case api.OpJump:
		l.at = ins.A
	case api.OpJumpZ:
		if s[ins.A].bits == 0 {
			l.at = ins.B
		}
	case api.OpPEq:
		s[ins.A] = value{bits: truth(s[ins.B] == s[ins.C])}
	case api.OpGet:
		s[ins.A] = m.globals[ins.B]
	case api.OpSet:
		m.globals[ins.A] = s[ins.B]
	case api.OpYield:
	case api.OpSleep:
		if n := int(s[ins.A].bits); n > 0 && m.clock < 1<<40 {
			x.state, x.sleeps, x.until = api.GWaits, true, m.clock+min(uint64(n), 1<<40-m.clock)
		}
	case api.OpPrint:
		m.print(x, l.f.Slots[ins.A], s[ins.A].bits)
	case api.OpExit:
		m.end(x, api.EvExit, s[ins.A].bits)
	case api.OpPanic:
		m.throw(x, int(s[ins.A].bits))
	case api.OpGo:
		if len(m.fibers) == 64 {
			m.end(x, api.EvFull, 0)
		} else {
			m.begin(later{m.p.Funcs[ins.A], m.pick(l, ins.List)})
		}
	case api.OpDefer:
		if len(x.levels) == 64 || len(l.putOff) == 16 {
			return api.PanicDepth
		}
		l.putOff = append(l.putOff, later{m.p.Funcs[ins.A], m.pick(l, ins.List)})
	case api.OpAddr, api.OpGetRef, api.OpSetRef:
		return m.doSlot(l, ins)
	case api.OpNew, api.OpNewArr, api.OpLen, api.OpLoad, api.OpStore, api.OpLoadX, api.OpStoreX:
		return m.doObject(l, ins)
	case api.OpChan, api.OpSend, api.OpRecv, api.OpClose, api.OpSelect:
		return m.doPipe(x, l, ins)
	default:
		return m.reckon(l, ins)
	}
	return 0
}

func (m *model) print(x *fiber, k api.Kind, n uint64) {
	kind := api.EvPrint
	if k == flt {
		kind = api.EvFloat
	}
	if len(m.trace) == 4095 {
		m.end(x, api.EvFull, 0)
		return
	}
	m.trace = append(m.trace, api.Event{Kind: kind, G: x.number, Value: n})
}

// floatOf is a float as a value.
func floatOf(f float64) value {
	if f != f {
		return value{bits: theNaN}
	}
	return value{bits: math.Float64bits(f)}
}

// reckon does what is done with ints and floats.
func (m *model) reckon(l *level, ins api.Ins) int {
	b, c := l.slots[ins.B].bits, l.slots[ins.C].bits
	x, y := math.Float64frombits(b), math.Float64frombits(c)
	to := &l.slots[ins.A]
	switch ins.Op {
	case api.OpDiv, api.OpMod:
		if c == 0 {
			return api.PanicDiv
		}
		fallthrough
	case api.OpAdd, api.OpSub, api.OpMul, api.OpAnd, api.OpOr, api.OpXor, api.OpShl, api.OpShr, api.OpEq, api.OpLess:
		*to = value{bits: uint64(reckoned(ins.Op, int(b), int(c)))}
	case api.OpFAdd:
		*to = floatOf(x + y)
	case api.OpFSub:
		*to = floatOf(x - y)
	case api.OpFMul:
		*to = floatOf(x * y)
	case api.OpFDiv:
		*to = floatOf(x / y)
	case api.OpFEq:
		*to = value{bits: truth(x == y)}
	case api.OpFLess:
		*to = value{bits: truth(x < y)}
	case api.OpItoF:
		*to = floatOf(float64(int(b)))
	case api.OpFtoI:
		switch {
		case x != x:
			*to = value{}
		case x >= 1<<63:
			*to = value{bits: math.MaxInt64}
		case x <= -1<<63:
			*to = value{bits: 1 << 63}
		default:
			*to = value{bits: uint64(int(x))}
		}
	}
	return 0
}

func (m *model) doSlot(l *level, ins api.Ins) int {
	s := l.slots
	switch {
	case ins.Op == api.OpAddr:
		s[ins.A] = value{slot: &s[ins.B]}
	case ins.Op == api.OpGetRef && s[ins.B].slot != nil:
		s[ins.A] = *s[ins.B].slot
	case ins.Op == api.OpSetRef && s[ins.A].slot != nil:
		*s[ins.A].slot = s[ins.B]
	default:
		return api.PanicNil
	}
	return 0
}

func (m *model) doObject(l *level, ins api.Ins) int {
	s := l.slots
	switch ins.Op {
	case api.OpNew:
		t := m.p.Types[ins.B]
		s[ins.A] = value{object: &object{kinds: t.Fields, cells: make([]value, len(t.Fields))}}
		return 0
	case api.OpNewArr:
		n := int(s[ins.C].bits)
		if n < 0 || n > 1023 {
			return api.PanicIndex
		}
		s[ins.A] = value{object: &object{kinds: m.p.Types[ins.B].Fields, array: true, cells: make([]value, n)}}
		return 0
	}
	stores := ins.Op == api.OpStore || ins.Op == api.OpStoreX
	o := s[ins.B].object
	if stores {
		o = s[ins.A].object
	}
	if o == nil {
		return api.PanicNil
	}
	at := ins.C
	if ins.Op == api.OpLoadX || ins.Op == api.OpStoreX {
		at = int(s[ins.C].bits)
	}
	switch {
	case ins.Op == api.OpLen:
		s[ins.A] = value{bits: uint64(len(o.cells))}
	case at < 0 || at >= len(o.cells):
		return api.PanicIndex
	case stores:
		o.cells[at] = s[ins.B]
	default:
		s[ins.A] = o.cells[at]
	}
	return 0
}

// find is where the first one stands who waits at a channel to send, or to receive; -1, if nobody does.
func (m *model) find(c *pipe, send bool) int {
	return slices.IndexFunc(m.waiting, func(w waiter) bool { return w.at == c && w.send == send })
}

// isReady tells whether a send, or a receive, wouldn't wait.
func (m *model) isReady(c *pipe, send bool) bool {
	switch {
	case c == nil:
		return false
	case c.closed || m.find(c, !send) >= 0:
		return true
	case send:
		return len(c.full) < c.places
	}
	return len(c.full) > 0
}

// wake wakes a waiter: it waits nowhere any more.
func (m *model) wake(w waiter, v value, closed bool) {
	m.waiting = slices.DeleteFunc(m.waiting, func(other waiter) bool { return other.who == w.who })
	w.who.state = api.GReady
	l := w.who.levels[len(w.who.levels)-1]
	ins := l.f.Code[l.at-1]
	w.who.refused = closed && w.send
	switch {
	case ins.Op == api.OpSelect:
		m.met["select woken"]++
		l.slots[ins.A] = value{bits: uint64(w.number)}
		if !w.send {
			l.slots[ins.List[3*w.number+2]] = v
		}
	case !w.send:
		l.slots[ins.A] = v
		l.slots[ins.C] = value{bits: truth(!closed)}
	}
}

// send sends where it is ready.
func (m *model) send(c *pipe, v value) int {
	at := m.find(c, false)
	switch {
	case c.closed:
		return api.PanicChan
	case at >= 0:
		m.met["handed"]++
		m.wake(m.waiting[at], v, false)
	default:
		c.full = append(slices.Clone(c.full), v)
	}
	return 0
}

// receive receives where it is ready.
func (m *model) receive(c *pipe) (value, bool) {
	at := m.find(c, true)
	if at < 0 && len(c.full) == 0 {
		return value{}, false
	}
	all := slices.Clone(c.full)
	if at >= 0 {
		m.met["taken"]++
		w := m.waiting[at]
		all = append(all, w.value)
		m.wake(w, value{}, false)
	}
	c.full = all[1:]
	return all[0], true
}

func (m *model) doPipe(x *fiber, l *level, ins api.Ins) int {
	s := l.slots
	switch ins.Op {
	case api.OpChan:
		s[ins.A] = value{pipe: &pipe{of: l.f.Slots[ins.A] - 64, places: int(ins.Imm)}}
	case api.OpClose:
		return m.closePipe(s[ins.A].pipe)
	case api.OpSelect:
		return m.selectCase(x, l, ins)
	case api.OpSend:
		if c := s[ins.A].pipe; m.isReady(c, true) {
			return m.send(c, s[ins.B])
		}
		m.wait(x, waiter{at: s[ins.A].pipe, send: true, value: s[ins.B]})
	case api.OpRecv:
		c := s[ins.B].pipe
		if !m.isReady(c, false) {
			m.wait(x, waiter{at: c})
			break
		}
		v, ok := m.receive(c)
		s[ins.A] = v
		s[ins.C] = value{bits: truth(ok)}
	}
	return 0
}

// wait lets a fiber wait; at no channel it waits for ever.
func (m *model) wait(x *fiber, list ...waiter) {
	x.state = api.GWaits
	for _, w := range list {
		if w.at != nil {
			w.who = x
			m.waiting = append(m.waiting, w)
		}
	}
}

func (m *model) closePipe(c *pipe) int {
	switch {
	case c == nil:
		return api.PanicNil
	case c.closed:
		return api.PanicChan
	}
	c.closed = true
	m.met["closed"]++
	for _, send := range []bool{false, true} {
		for at := m.find(c, send); at >= 0; at = m.find(c, send) {
			w := m.waiting[at]
			// Who waits to receive and to send there: by which of both it is woken isn't said plainly.
			m.doubt = m.doubt || slices.ContainsFunc(m.waiting, func(o waiter) bool { return o.who == w.who && o.at == c && o.send != send })
			m.met["woken by close"]++
			m.wake(w, value{}, true)
		}
	}
	return 0
}

func (m *model) selectCase(x *fiber, l *level, ins api.Ins) int {
	var all, ready []waiter
	for k := 0; 3*k < len(ins.List); k++ {
		w := waiter{who: x, number: k, at: l.slots[ins.List[3*k+1]].pipe, send: ins.List[3*k] == 0, value: l.slots[ins.List[3*k+2]]}
		all = append(all, w)
		if m.isReady(w.at, w.send) {
			ready = append(ready, w)
		}
	}
	switch {
	case len(ready) > 0:
		w := ready[x.choice%uint64(len(ready))]
		m.met["select ready"]++
		l.slots[ins.A] = value{bits: uint64(w.number)}
		if w.send {
			return m.send(w.at, l.slots[ins.List[3*w.number+2]])
		}
		v, _ := m.receive(w.at)
		l.slots[ins.List[3*w.number+2]] = v
	case ins.B == 1:
		l.slots[ins.A] = value{bits: math.MaxUint64}
	default:
		m.wait(x, all...)
	}
	return 0
}

// reach counts what can be reached, and its words.
func (m *model) reach() (int, uint64) {
	objects, pipes := map[*object]int{}, map[*pipe]int{}
	words := 0
	var visit func(list []value)
	visit = func(list []value) {
		for _, v := range list {
			if o := v.object; o != nil && objects[o] == 0 {
				objects[o] = 1
				words += len(o.cells) + int(truth(o.array))
				visit(o.cells)
			}
			if c := v.pipe; c != nil && pipes[c] == 0 {
				pipes[c] = 1
				words += c.places + 2
				visit(c.full)
				for _, w := range m.waiting {
					if w.at == c && w.send {
						visit([]value{w.value})
					}
				}
			}
		}
	}
	visit(m.globals)
	for _, x := range m.fibers {
		for _, l := range x.levels {
			visit(l.slots)
			visit(l.results)
			for _, c := range l.putOff {
				visit(c.arguments)
			}
		}
	}
	return len(objects) + len(pipes), uint64(words)
}
