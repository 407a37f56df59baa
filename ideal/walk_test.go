package ideal_test

import (
	"math"
	"math/rand"
	"slices"
	"testing"

	"treadle/api"
	"treadle/ideal"
	"treadle/verify"
)

// chooser answers numbers below n, by which all is chosen.
type chooser func(n int) int

// of is one of a list.
func of[T any](c chooser, list ...T) T { return list[c(len(list))] }

// writer writes a function of a program.
type writer struct {
	choose chooser
	p      *api.Program
	f      *api.Func
}

// slotKinds are the kinds of each function's slots, in some order.
func slotKinds() []api.Kind {
	return kinds(num, num, num, num, flt, flt, ref, ptr(node), ptr(node), ptr(box), ptr(nums), ptr(nodes), ptr(ring), line(num), line(num), line(ptr(node)), line(ptr(ring)), ptr(lines))
}

// slot is one of the function's slots of a kind.
func (w writer) slot(k api.Kind) int {
	var fit []int
	for i, x := range w.f.Slots {
		if x == k {
			fit = append(fit, i)
		}
	}
	return of(w.choose, fit...)
}

// slots are such of these kinds.
func (w writer) slots(list []api.Kind) []int {
	var slots []int
	for _, k := range list {
		slots = append(slots, w.slot(k))
	}
	return slots
}

// number is an int, mostly a small one.
func (w writer) number() uint64 {
	if w.choose(8) == 0 {
		return uint64(of(w.choose, least, -64, -3, -1, 16, 63, 64, 1023, 1024, api.MaxTicks, greatest))
	}
	return uint64(w.choose(5))
}

// numbers writes an instruction of ints and floats.
func (w writer) numbers() api.Ins {
	n := func() int { return w.slot(num) }
	f := func() int { return w.slot(flt) }
	switch w.choose(12) {
	case 0, 1, 2, 3:
		return api.Ins{Op: api.OpConst, A: n(), Imm: w.number()}
	case 4:
		return bits(f(), of(w.choose, floats()...))
	case 5:
		return do(api.OpFAdd+w.choose(4), f(), f(), f())
	case 6:
		return do(api.OpFEq+w.choose(2), n(), f(), f())
	case 7:
		return of(w.choose, do(api.OpItoF, f(), n()), do(api.OpFtoI, n(), f()))
	case 8:
		k := of(w.choose, w.f.Slots...)
		return do(api.OpMove, w.slot(k), w.slot(k))
	case 9:
		k := of(w.choose, ptr(node), ptr(box), line(num), ptr(nodes))
		return do(api.OpPEq, n(), w.slot(k), w.slot(k))
	}
	op := api.OpAdd + w.choose(api.OpLess-api.OpAdd+1)
	if (op == api.OpDiv || op == api.OpMod) && w.choose(3) > 0 {
		op = api.OpAdd
	}
	return do(op, n(), n(), n())
}

// objects writes an instruction of objects, globals and references.
func (w writer) objects() api.Ins {
	t := of(w.choose, node, node, box, ring)
	a := of(w.choose, nums, nodes, lines)
	element := map[int]api.Kind{nums: num, nodes: ptr(node), lines: line(num)}[a]
	field := w.choose(len(w.p.Types[t].Fields))
	value := w.p.Types[t].Fields[field]
	switch w.choose(14) {
	case 0, 1, 2:
		return do(api.OpNew, w.slot(ptr(t)), t)
	case 3:
		return do(api.OpNewArr, w.slot(ptr(a)), a, w.slot(num))
	case 4:
		return do(api.OpLen, w.slot(num), w.slot(ptr(a)))
	case 5:
		return do(api.OpLoad, w.slot(value), w.slot(ptr(t)), field)
	case 6:
		return do(api.OpStore, w.slot(ptr(t)), w.slot(value), field)
	case 7:
		return do(api.OpLoadX, w.slot(element), w.slot(ptr(a)), w.slot(num))
	case 8:
		return do(api.OpStoreX, w.slot(ptr(a)), w.slot(element), w.slot(num))
	case 9:
		return do(api.OpAddr, w.slot(ref), w.slot(num))
	case 10:
		return of(w.choose, do(api.OpGetRef, w.slot(num), w.slot(ref)), do(api.OpSetRef, w.slot(ref), w.slot(num)))
	case 11:
		return w.get(w.choose(len(w.p.Globals)))
	}
	g := w.choose(len(w.p.Globals))
	return do(api.OpSet, g, w.slot(w.p.Globals[g]))
}

// get writes a get of a global.
func (w writer) get(g int) api.Ins { return do(api.OpGet, w.slot(w.p.Globals[g]), g) }

// channels writes an instruction of channels.
func (w writer) channels() api.Ins {
	k := of(w.choose, num, num, num, num, num, ptr(node), ptr(node), ptr(ring))
	switch w.choose(16) {
	case 0:
		return makeLine(w.slot(line(k)), of(w.choose, 0, 0, 0, 1, 2, 16))
	case 1, 2, 3, 4:
		return do(api.OpSend, w.slot(line(k)), w.slot(k))
	case 5, 6, 7, 8:
		return do(api.OpRecv, w.slot(k), w.slot(line(k)), w.slot(num))
	case 9:
		return do(api.OpClose, w.slot(line(k)))
	}
	var list []int
	for range 1 + w.choose(4) {
		k := of(w.choose, num, num, num, ptr(node), ptr(node), ptr(ring))
		list = append(list, w.choose(2), w.slot(line(k)), w.slot(k))
	}
	return api.Ins{Op: api.OpSelect, A: w.slot(num), B: w.choose(2), List: list}
}

// begun are the functions that a go or a defer may name.
func (w writer) begun() int {
	var fit []int
	for i, f := range w.p.Funcs {
		if len(f.Results) == 0 && !slices.Contains(f.Slots[:f.Params], ref) {
			fit = append(fit, i)
		}
	}
	// Mostly none of the first two.
	if len(fit) > 2 && w.choose(8) > 0 {
		fit = fit[2:]
	}
	return of(w.choose, fit...)
}

// goes writes a go.
func (w writer) goes() api.Ins {
	f := w.begun()
	return with(api.OpGo, f, w.slots(w.p.Funcs[f].Slots[:w.p.Funcs[f].Params])...)
}

// flow writes an instruction that goes on elsewhere, in a function of so many instructions.
func (w writer) flow(length int) api.Ins {
	switch w.choose(19) {
	case 0, 1, 2, 3:
		f := w.choose(len(w.p.Funcs))
		called := w.p.Funcs[f]
		return with(api.OpCall, f, append(w.slots(called.Slots[:called.Params]), w.slots(called.Results)...)...)
	case 4, 5, 6:
		return w.goes()
	case 7, 8, 9, 10:
		f := w.begun()
		return with(api.OpDefer, f, w.slots(w.p.Funcs[f].Slots[:w.p.Funcs[f].Params])...)
	case 11:
		return do(api.OpPanic, w.slot(num))
	case 12:
		return do(api.OpRecover, w.slot(num), w.slot(num))
	case 13:
		return do(api.OpSleep, w.slot(num))
	case 14:
		return do(api.OpJumpZ, w.slot(num), w.choose(length))
	case 15:
		return of(w.choose, do(api.OpJumpZ, w.slot(num), w.choose(length)), do(api.OpYield), do(api.OpJump, w.choose(length)))
	case 16:
		return of(w.choose, ret(w.slots(w.f.Results)...), show(w.slot(flt)), show(w.slot(num)))
	}
	return show(w.slot(of(w.choose, num, num, flt)))
}

// fill writes what fills a slot of a kind: most pointers and channels are those of globals.
func (w writer) fill(slot int, k api.Kind) []api.Ins {
	for g, global := range w.p.Globals {
		if k == global && k >= api.Ptr && w.choose(8) > 0 {
			return the(do(api.OpGet, slot, g))
		}
	}
	switch {
	case k >= api.Chan:
		return the(makeLine(slot, of(w.choose, 0, 0, 1, 2)))
	case k >= api.Ptr && w.p.Types[k-api.Ptr].Array:
		n := w.slot(num)
		return the(cons(n, 3), do(api.OpNewArr, slot, int(k-api.Ptr), n))
	case k >= api.Ptr:
		return the(do(api.OpNew, slot, int(k-api.Ptr)))
	case k == ref:
		return the(do(api.OpAddr, slot, w.slot(num)))
	}
	return nil
}

// write writes the function's instructions. Ahead of them it may recover, put a call of the function 1 off, and fill its slots.
func (w writer) write() {
	length := 4 + w.choose(16)
	var code []api.Ins
	if w.choose(3) == 0 {
		code = append(code, do(api.OpRecover, w.slot(num), w.slot(num)))
	}
	if w.choose(4) > 0 {
		code = append(code, with(api.OpDefer, 1))
	}
	for slot, k := range w.f.Slots {
		if slot >= w.f.Params && w.choose(4) > 0 {
			code = append(code, w.fill(slot, k)...)
		}
	}
	length += len(code)
	for len(code) < length-1 {
		switch w.choose(10) {
		case 0, 1:
			code = append(code, w.numbers())
		case 2, 3:
			code = append(code, w.objects())
		case 4, 5, 6:
			code = append(code, w.channels())
		default:
			code = append(code, w.flow(length))
		}
	}
	last := ret(w.slots(w.f.Results)...)
	switch w.choose(24) {
	case 0:
		last = of(w.choose, do(api.OpPanic, w.slot(num)), stop(w.slot(num)))
	case 1, 2, 3, 4:
		last = do(api.OpJump, w.choose(length))
	}
	w.f.Code = append(code[:length-1], last)
}

// shuffled are a function's slots in some order.
func shuffled(choose chooser) []api.Kind {
	slots := slotKinds()
	for at := range slots {
		to := choose(at + 1)
		slots[at], slots[to] = slots[to], slots[at]
	}
	return slots
}

// written is a program, as it is chosen. The first function has neither parameters nor results, as it must; nor has the second one, which recovers.
func written(choose chooser) api.Program {
	p := program()
	for i := range 4 + choose(3) {
		f := api.Func{Slots: shuffled(choose)}
		if i > 1 {
			f.Params = choose(5)
		}
		// The next two can be begun by go and defer, too, unless one of them has a reference as a parameter.
		if i > 3 {
			for range choose(4) {
				f.Results = append(f.Results, of(choose, num, flt, ptr(node), line(num), ptr(nodes)))
			}
		}
		p.Funcs = append(p.Funcs, f)
	}
	for i := range p.Funcs {
		writer{choose, &p, &p.Funcs[i]}.write()
	}
	w := writer{choose, &p, &p.Funcs[1]}
	// It puts nothing off, or it would be put off by itself again and again.
	w.f.Code = the(do(api.OpRecover, w.slot(num), w.slot(num)), w.objects(), w.channels(), show(w.slot(num)), ret())
	writer{choose, &p, &p.Funcs[0]}.lead()
	return p
}

// lead writes what the first function does ahead of all: it fills the globals, and begins goroutines; and then it mostly goes on for ever.
func (w writer) lead() {
	n, list, pipe := w.slot(num), w.slot(ptr(nodes)), w.slot(line(num))
	first := the(cons(n, 3), do(api.OpNewArr, list, nodes, n), makeLine(pipe, w.choose(3)), do(api.OpSet, gNodes, list), do(api.OpSet, gLine, pipe))
	first = append(first, do(api.OpNew, w.slot(ptr(node)), node), makeLine(w.slot(line(ptr(node))), w.choose(2)))
	for _, g := range []int{gNum, gNode, gNodeLine} {
		first = append(first, do(api.OpSet, g, w.slot(w.p.Globals[g])))
	}
	for slot, k := range w.f.Slots {
		first = append(first, w.fill(slot, k)...)
	}
	for range 1 + w.choose(4) {
		first = append(first, w.goes())
	}
	// Jumps lead to where they led.
	for at := range w.f.Code {
		switch ins := &w.f.Code[at]; ins.Op {
		case api.OpJump:
			ins.A += len(first)
		case api.OpJumpZ:
			ins.B += len(first)
		}
	}
	w.f.Code = append(first, w.f.Code...)
	switch last := len(w.f.Code) - 1; w.choose(4) {
	case 0, 1:
		w.f.Code = append(first, append(w.serve(), do(api.OpJump, len(first)))...)
	case 2:
		w.f.Code[last] = do(api.OpJump, len(first))
	}
}

// serve writes what the first function may do again and again: it begins goroutines, finds those who wait at the globals' channels, and puts others in these channels' place, which it mostly closes.
func (w writer) serve() []api.Ins {
	var code []api.Ins
	for range 2 {
		code = append(code, w.goes())
		for range 3 {
			g := of(w.choose, gLine, gLine, gNodeLine)
			k := w.p.Globals[g]
			pipe := w.slot(k)
			code = append(code, do(api.OpYield), do(api.OpGet, pipe, g), selOr(w.slot(num), w.choose(2), pipe, w.slot(k-api.Chan)), do(api.OpYield))
			if w.choose(4) == 0 {
				code = append(code, of(w.choose, do(api.OpClose, pipe), do(api.OpClose, pipe), do(api.OpYield)), makeLine(pipe, of(w.choose, 0, 0, 1, 2)), do(api.OpSet, g, pipe))
			}
		}
	}
	return code
}

// pair is a run beside a model of it.
type pair struct {
	t     testing.TB
	d     *ideal.Ideal
	m     *model
	moves []api.Move
}

func newPair(t testing.TB, p api.Program) *pair {
	t.Helper()
	if fault := verify.Check(p); fault != (api.Fault{}) {
		t.Fatalf("a program that is wrong: %v: %v", fault, p)
	}
	return &pair{t: t, d: begin(t, p).Ideal, m: newModel(p)}
}

// move tells both a move, and holds all that is told against the model; it answers whether the run goes on, and nothing is in doubt.
func (x *pair) move(move api.Move) bool {
	x.t.Helper()
	x.moves = append(x.moves, move)
	var got, want api.Errno
	if move.G == -1 {
		got, want = x.d.Tick(move.Choice), x.m.tick(move.Choice)
	} else {
		got, want = x.d.Step(move.G, move.Choice), x.m.step(move.G, move.Choice)
	}
	if x.m.doubt {
		return false
	}
	if got != want {
		x.t.Errorf("%v: %d, want %d", move, got, want)
	}
	x.tellAll()
	if x.t.Failed() {
		x.t.Fatalf("behind %v of %v", x.moves, x.m.p)
	}
	return !x.m.ended
}

// tellAll holds all that the run tells against the model.
func (x *pair) tellAll() {
	x.t.Helper()
	if got := x.d.Trace(); !slices.Equal(got, x.m.trace) || x.d.Ended() != x.m.ended || x.d.Gs() != len(x.m.fibers) {
		x.t.Errorf("%v, %v, %d, want %v, %v, %d", got, x.d.Ended(), x.d.Gs(), x.m.trace, x.m.ended, len(x.m.fibers))
	}
	for g, f := range x.m.fibers {
		ins, ok := x.d.Next(g)
		wantIns, wantOk := x.m.next(g)
		if x.d.State(g) != f.state || x.d.Frames(g) != len(f.levels) || ok != wantOk || !same(ins, wantIns) {
			x.t.Errorf("the goroutine %d: %d, %d, %v, %v, want %d, %d, %v, %v", g, x.d.State(g), x.d.Frames(g), ins, ok, f.state, len(f.levels), wantIns, wantOk)
		}
	}
	things, words := x.d.Reach()
	if n, w := x.m.reach(); things != n || words != w {
		x.t.Errorf("Reach: %d, %d, want %d, %d", things, words, n, w)
	}
}

// walk moves as it is chosen, mostly one that is ready, until the run has ended, or so many times.
func (x *pair) walk(choose chooser, most int) {
	x.t.Helper()
	for range most {
		move := api.Move{G: choose(len(x.m.fibers)), Choice: uint64(choose(16))}
		if choose(40) == 0 {
			move.Choice = math.MaxUint64 - move.Choice
		}
		for range len(x.m.fibers) {
			if x.m.fibers[move.G].state != api.GReady {
				move.G = (move.G + 1) % len(x.m.fibers)
			}
		}
		switch choose(64) {
		case 0, 1, 2:
			move = api.Move{G: -1, Choice: of[uint64](choose, 0, 1, 2, 3, api.MaxTicks)}
		case 3:
			move.G = of(choose, -2, len(x.m.fibers), least, greatest, 0, 1)
		}
		// A slice of several steps of one goroutine lets it come further.
		for range 1 + choose(6) {
			if !x.move(move) {
				return
			}
			if move.G < 0 || move.G >= len(x.m.fibers) || x.m.fibers[move.G].state != api.GReady {
				break
			}
		}
	}
}

func TestWalksAgainstTheModel(t *testing.T) {
	met, done := map[string]int{}, map[int]int{}
	for seed := range int64(1500) {
		choose := chooser(rand.New(rand.NewSource(seed)).Intn)
		x := newPair(t, written(choose))
		x.walk(choose, 120)
		for what, n := range x.m.met {
			met[what] += n
		}
		for _, e := range x.m.trace {
			done[e.Kind]++
		}
		x.m.close()
	}
	// The walks come by all that is worth it.
	for _, what := range []string{"recovered", "in the place", "refused", "slept", "select woken", "select ready", "handed", "taken", "closed", "woken by close"} {
		if met[what] < 20 {
			t.Errorf("%s: %d times", what, met[what])
		}
	}
	for kind, least := range map[int]int{api.EvPrint: 500, api.EvFloat: 100, api.EvExit: 20, api.EvPanic: 100, api.EvDead: 20} {
		if done[kind] < least {
			t.Errorf("the event %d: %d times", kind, done[kind])
		}
	}
}

// chooserOf chooses by bytes, and the first one when they have ended.
func chooserOf(text []byte) chooser {
	return func(n int) int {
		if len(text) == 0 {
			return 0
		}
		b := int(text[0])
		text = text[1:]
		return b % n
	}
}

func FuzzPrograms(f *testing.F) {
	for seed := range int64(20) {
		text := make([]byte, 2000)
		rand.New(rand.NewSource(seed)).Read(text)
		f.Add(text)
	}
	f.Fuzz(func(t *testing.T, text []byte) {
		choose := chooserOf(text)
		x := newPair(t, written(choose))
		defer x.m.close()
		x.walk(choose, 100)
	})
}
