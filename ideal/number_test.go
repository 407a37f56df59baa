package ideal_test

import (
	"math"
	"math/big"
	"testing"

	"treadle/api"
	"treadle/draft"
	"treadle/flo"
)

// ints are an int's edges, and some between.
func ints() []int {
	return []int{
		least, least + 1, least + 2, -1 << 62, -1 << 32, -1 << 31, -65, -64, -63, -62, -8, -7, -3, -2, -1,
		0, 1, 2, 3, 7, 8, 61, 62, 63, 64, 65, 127, 128, 1<<31 - 1, 1 << 31, 1 << 32, 1<<32 + 1, 1 << 62, greatest - 1, greatest,
	}
}

// made is the int that an instruction makes of two ints, and how the run ends.
func made(t *testing.T, op, b, c int) (int, api.Event) {
	t.Helper()
	events := outcome(t, kinds(num, num, num), cons(0, b), cons(1, c), do(op, 2, 0, 1), show(2), ret())
	if len(events) == 1 {
		return 0, events[0]
	}
	return int(events[0].Value), events[1]
}

// makes fails the test if an instruction makes something else of two ints.
func makes(t *testing.T, op, b, c, want int) {
	t.Helper()
	if got, end := made(t, op, b, c); got != want || end != event(api.EvExit, 0, 0) {
		t.Errorf("op %d of %d and %d: %d, %v, want %d", op, b, c, got, end, want)
	}
}

// row is two ints and what is made of them.
type row struct{ b, c, want int }

func TestInts(t *testing.T) {
	for op, rows := range map[int][]row{
		api.OpAdd: {{0, 0, 0}, {3, 4, 7}, {-3, 4, 1}, {greatest, 1, least}, {greatest, greatest, -2}, {least, -1, greatest}, {least, least, 0}, {least, greatest, -1}},
		api.OpSub: {{0, 0, 0}, {3, 4, -1}, {4, 3, 1}, {-3, -4, 1}, {least, 1, greatest}, {0, least, least}, {greatest, -1, least}, {least, greatest, 1}},
		api.OpMul: {{0, 5, 0}, {3, 4, 12}, {-3, 4, -12}, {-3, -4, 12}, {greatest, 2, -2}, {least, -1, least}, {least, 2, 0}, {1 << 32, 1 << 32, 0}, {1 << 32, 1 << 31, least}, {greatest, greatest, 1}},
		api.OpDiv: {{7, 2, 3}, {-7, 2, -3}, {7, -2, -3}, {-7, -2, 3}, {0, 5, 0}, {0, -5, 0}, {1, 2, 0}, {-1, 2, 0}, {1, -2, 0}, {-1, -2, 0}, {least, -1, least}, {least, 1, least}, {least, 2, -1 << 62}, {least, least, 1}, {greatest, -1, -greatest}, {greatest, least, 0}, {least, greatest, -1}},
		api.OpMod: {{7, 2, 1}, {-7, 2, -1}, {7, -2, 1}, {-7, -2, -1}, {0, 5, 0}, {0, -5, 0}, {1, 2, 1}, {-1, 2, -1}, {1, -2, 1}, {-1, -2, -1}, {6, 3, 0}, {-6, 3, 0}, {least, -1, 0}, {least, 1, 0}, {least, 10, -8}, {least, least, 0}, {greatest, least, greatest}, {least, greatest, -1}},
		api.OpAnd: {{12, 10, 8}, {-1, 5, 5}, {least, greatest, 0}, {-2, -3, -4}, {0, -1, 0}},
		api.OpOr:  {{12, 10, 14}, {-1, 5, -1}, {least, greatest, -1}, {0, 0, 0}, {-2, 1, -1}},
		api.OpXor: {{12, 10, 6}, {-1, 5, -6}, {least, greatest, -1}, {7, 7, 0}, {-1, -1, 0}},
		api.OpShl: {{1, 0, 1}, {1, 1, 2}, {1, 62, 1 << 62}, {1, 63, least}, {1, 64, 1}, {1, 65, 2}, {3, 63, least}, {-1, 63, least}, {-1, 64, -1}, {5, -64, 5}, {5, -63, 10}, {1, -1, least}, {1, -2, 1 << 62}, {1, least, 1}, {1, least + 1, 2}, {1, greatest, least}, {-5, 1, -10}},
		api.OpShr: {{8, 0, 8}, {8, 1, 4}, {8, 3, 1}, {8, 4, 0}, {-8, 1, -4}, {-8, 3, -1}, {-8, 4, -1}, {-1, 63, -1}, {greatest, 63, 0}, {greatest, 62, 1}, {least, 63, -1}, {least, 62, -2}, {8, 64, 8}, {8, 65, 4}, {-8, 64, -8}, {8, -64, 8}, {8, -63, 4}, {least, -1, -1}, {least, -2, -2}, {greatest, -2, 1}, {8, least, 8}, {8, least + 1, 4}, {least, greatest, -1}},
		api.OpEq:  {{0, 0, 1}, {0, 1, 0}, {1, 0, 0}, {least, least, 1}, {least, greatest, 0}, {-1, greatest, 0}, {-1, -1, 1}},
		api.OpLess: {{0, 0, 0}, {0, 1, 1}, {1, 0, 0}, {-1, 0, 1}, {0, -1, 0}, {least, greatest, 1}, {greatest, least, 0}, {least, least, 0}, {-2, -1, 1}, {greatest, greatest, 0},
			{least, 0, 1}},
	} {
		for _, x := range rows {
			makes(t, op, x.b, x.c, x.want)
		}
	}
}

// wrapped is a whole number, wrapped round into an int.
func wrapped(x *big.Int) int {
	low := new(big.Int).And(x, new(big.Int).SetUint64(math.MaxUint64))
	return int(low.Uint64())
}

// reckoned is what an instruction makes of two ints, by numbers of any size. It isn't asked for a division by 0.
func reckoned(op, b, c int) int {
	x, y, z := big.NewInt(int64(b)), big.NewInt(int64(c)), new(big.Int)
	// How far a shift goes is counted up, or down, into 0 to 63.
	far := uint(new(big.Int).Mod(y, big.NewInt(64)).Int64())
	switch op {
	case api.OpAdd:
		z.Add(x, y)
	case api.OpSub:
		z.Sub(x, y)
	case api.OpMul:
		z.Mul(x, y)
	case api.OpDiv:
		z.Quo(x, y)
	case api.OpMod:
		z.Rem(x, y)
	case api.OpAnd:
		z.And(x, y)
	case api.OpOr:
		z.Or(x, y)
	case api.OpXor:
		z.Xor(x, y)
	case api.OpShl:
		z.Lsh(x, far)
	case api.OpShr:
		z.Rsh(x, far)
	case api.OpEq:
		z.SetUint64(truth(x.Cmp(y) == 0))
	case api.OpLess:
		z.SetUint64(truth(x.Cmp(y) < 0))
	}
	return wrapped(z)
}

func TestIntsAgainstNumbersOfAnySize(t *testing.T) {
	for op := api.OpAdd; op <= api.OpLess; op++ {
		for _, b := range ints() {
			for _, c := range ints() {
				if c != 0 || op != api.OpDiv && op != api.OpMod {
					makes(t, op, b, c, reckoned(op, b, c))
				}
			}
		}
	}
}

func TestDivisionByNought(t *testing.T) {
	for _, op := range []int{api.OpDiv, api.OpMod} {
		for _, b := range ints() {
			if _, end := made(t, op, b, 0); end != event(api.EvPanic, 0, api.PanicDiv) {
				t.Errorf("op %d of %d and 0: %v", op, b, end)
			}
		}
	}
}

// Where one slot is named several times it is read ahead of being written.
func TestOneSlotNamedSeveralTimes(t *testing.T) {
	for _, c := range []struct {
		ins  api.Ins
		want []int
	}{
		{do(api.OpSub, 0, 0, 1), []int{7, 3}}, {do(api.OpSub, 1, 0, 1), []int{10, 7}}, {do(api.OpSub, 0, 1, 0), []int{-7, 3}}, {do(api.OpAdd, 0, 0, 0), []int{20, 3}},
		{do(api.OpDiv, 0, 0, 1), []int{3, 3}}, {do(api.OpDiv, 1, 0, 1), []int{10, 3}}, {do(api.OpMod, 0, 0, 1), []int{1, 3}}, {do(api.OpMod, 1, 0, 1), []int{10, 1}}, {do(api.OpDiv, 0, 0, 0), []int{1, 3}},
		{do(api.OpMove, 0, 1), []int{3, 3}}, {do(api.OpMove, 1, 0), []int{10, 10}}, {do(api.OpMove, 1, 1), []int{10, 3}}, {do(api.OpLess, 0, 1, 0), []int{1, 3}}, {do(api.OpShl, 1, 0, 1), []int{10, 80}},
	} {
		got := outcome(t, kinds(num, num), cons(0, 10), cons(1, 3), c.ins, show(0), show(1), ret())
		expect(t, "an instruction", got, then(prints(0, c.want...), api.EvExit, 0, 0))
	}
}

func TestConstAndMove(t *testing.T) {
	for _, n := range ints() {
		got := outcome(t, kinds(num, num), cons(1, n), do(api.OpMove, 0, 1), show(1), show(0), ret())
		expect(t, "ints", got, then(prints(0, n, n), api.EvExit, 0, 0))
	}
	for _, w := range draft.Floats() {
		want := w
		if isNaN(w) {
			want = theNaN
		}
		got := outcome(t, kinds(flt, flt), bits(1, w), do(api.OpMove, 0, 1), show(1), show(0), ret())
		expect(t, "floats", got, []api.Event{{Kind: api.EvFloat, Value: want}, {Kind: api.EvFloat, Value: want}, event(api.EvExit, 0, 0)})
		// The same bits in an int slot are an int, whatever they are as a float.
		expect(t, "an int", outcome(t, kinds(num), bits(0, w), show(0), ret()), then(prints(0, int(w)), api.EvExit, 0, 0))
	}
}

func TestMoveOfPointersChannelsAndReferences(t *testing.T) {
	got := outcome(t, kinds(ptr(box), ptr(box), line(num), line(num), ref, ref, num, num),
		do(api.OpNew, 0, box), do(api.OpMove, 1, 0), do(api.OpPEq, 6, 0, 1), show(6),
		makeLine(2, 1), do(api.OpMove, 3, 2), do(api.OpPEq, 6, 2, 3), show(6),
		do(api.OpAddr, 4, 7), do(api.OpMove, 5, 4), cons(6, 9), do(api.OpSetRef, 5, 6), show(7), ret())
	expect(t, "moves", got, then(prints(0, 1, 1, 9), api.EvExit, 0, 0))
}

// jumps is a program that shows by which way it went: 1 if the jump wasn't taken, 2 if it was.
func jumps(jump api.Ins, n int) api.Program {
	return program(fun(0, kinds(num, num), cons(0, n), jump, cons(1, 1), do(api.OpJump, 5), cons(1, 2), show(1), ret()))
}

func TestJumps(t *testing.T) {
	for _, c := range []struct {
		ins     api.Ins
		n, want int
	}{
		{do(api.OpJump, 4), 0, 2}, {do(api.OpJump, 2), 0, 1}, {do(api.OpJumpZ, 0, 4), 0, 2}, {do(api.OpJumpZ, 0, 4), 1, 1}, {do(api.OpJumpZ, 0, 4), -1, 1}, {do(api.OpJumpZ, 0, 4), least, 1}, {do(api.OpJumpZ, 0, 4), 1 << 32, 1}, {do(api.OpJumpZ, 1, 4), 1, 2},
	} {
		expect(t, "a jump", outcomeOf(t, jumps(c.ins, c.n)), then(prints(0, c.want), api.EvExit, 0, 0))
	}
	// Back, to the first instruction, to itself, and to the last one.
	count := outcome(t, kinds(num, num, num), cons(1, 1), do(api.OpAdd, 0, 0, 1), cons(2, 3), do(api.OpLess, 2, 0, 2), do(api.OpJumpZ, 2, 6), do(api.OpJump, 0), show(0), ret())
	expect(t, "a loop", count, then(prints(0, 3), api.EvExit, 0, 0))
	r := begin(t, program(fun(0, kinds(num), do(api.OpJumpZ, 0, 0), ret())))
	r.steps(0, 50)
	r.next(0, do(api.OpJumpZ, 0, 0))
	code := append(times(api.MaxCode-2, do(api.OpYield)), show(0), ret())
	code[0] = do(api.OpJump, api.MaxCode-1)
	expect(t, "the last one", outcome(t, kinds(num), code...), []api.Event{event(api.EvExit, 0, 0)})
	code[0] = do(api.OpYield)
	expect(t, "all of them", outcome(t, kinds(num), code...), then(prints(0, 0), api.EvExit, 0, 0))
}

func TestYieldDoesNothing(t *testing.T) {
	r := begin(t, program(fun(0, kinds(num), do(api.OpYield), do(api.OpYield), show(0), ret())))
	r.steps(0, 1)
	r.states(api.GReady)
	r.next(0, do(api.OpYield))
	r.steps(0, 1)
	r.next(0, show(0))
	r.shows(nil)
	r.frames(1)
}

// isNaN tells whether bits are a NaN's.
func isNaN(w uint64) bool { return w&^(1<<63) > 0x7ff<<52 }

// madeOf is the word that an instruction makes of two words in slots of the kind k, as a slot of the kind r shows it.
func madeOf(t *testing.T, op int, r, k api.Kind, b, c uint64) uint64 {
	t.Helper()
	ins := do(op, 2, 0, 1)
	if op == api.OpItoF || op == api.OpFtoI {
		ins = do(op, 2, 0)
	}
	events := outcome(t, kinds(k, k, r), bits(0, b), bits(1, c), ins, show(2), ret())
	shown := api.EvPrint
	if r == flt {
		shown = api.EvFloat
	}
	if len(events) != 2 || events[0].Kind != shown || events[1] != event(api.EvExit, 0, 0) {
		t.Fatalf("op %d of %x and %x: %v", op, b, c, events)
	}
	return events[0].Value
}

func TestFloatsAreThoseOfLayer2(t *testing.T) {
	list := draft.Floats()
	for _, b := range list {
		for _, c := range list {
			for op, want := range map[int]uint64{api.OpFAdd: flo.Add(b, c), api.OpFSub: flo.Sub(b, c), api.OpFMul: flo.Mul(b, c), api.OpFDiv: flo.Div(b, c)} {
				if got := madeOf(t, op, flt, flt, b, c); got != want {
					t.Errorf("op %d of %x and %x: %x, want %x", op, b, c, got, want)
				}
			}
			for op, want := range map[int]bool{api.OpFEq: flo.Equal(b, c), api.OpFLess: flo.Less(b, c)} {
				if got := madeOf(t, op, num, flt, b, c); got != truth(want) {
					t.Errorf("op %d of %x and %x: %d, want %v", op, b, c, got, want)
				}
			}
		}
	}
}

func TestFloats(t *testing.T) {
	of := math.Float64bits
	inf, tiny, most, half := of(math.Inf(1)), uint64(1), of(math.MaxFloat64), of(0.5)
	const minus = 1 << 63
	for _, x := range []struct {
		op         int
		b, c, want uint64
	}{
		{api.OpFAdd, of(1), of(2), of(3)}, {api.OpFAdd, inf, inf | minus, theNaN}, {api.OpFAdd, most, most, inf}, {api.OpFAdd, tiny, tiny, 2}, {api.OpFAdd, 0, minus, 0}, {api.OpFAdd, minus, minus, minus}, {api.OpFAdd, of(0.1), of(0.2), 0x3fd3333333333334}, {api.OpFAdd, of(0x1p53), of(1), of(0x1p53)},
		{api.OpFSub, of(1), of(3), of(-2)}, {api.OpFSub, inf, inf, theNaN}, {api.OpFSub, of(1), of(1), 0}, {api.OpFSub, minus, 0, minus}, {api.OpFSub, 0x0010000000000000, tiny, 0x000fffffffffffff}, {api.OpFSub, 0, tiny, tiny | minus},
		{api.OpFMul, of(1.5), of(-2), of(-3)}, {api.OpFMul, 0, inf, theNaN}, {api.OpFMul, tiny, half, 0}, {api.OpFMul, tiny | minus, half, minus}, {api.OpFMul, most, of(2), inf}, {api.OpFMul, 0, of(-1), minus}, {api.OpFMul, 3, half, 2},
		{api.OpFDiv, of(1), of(4), of(0.25)}, {api.OpFDiv, 0, 0, theNaN}, {api.OpFDiv, of(1), 0, inf}, {api.OpFDiv, of(1), minus, inf | minus}, {api.OpFDiv, inf, inf, theNaN}, {api.OpFDiv, of(1), inf | minus, minus}, {api.OpFDiv, of(4), of(1), of(4)}, {api.OpFDiv, 0x0010000000000000, of(2), 0x0008000000000000},
		{api.OpFEq, of(1), of(1), 1}, {api.OpFEq, of(1), of(2), 0}, {api.OpFEq, 0, minus, 1}, {api.OpFEq, inf, inf, 1}, {api.OpFEq, inf, inf | minus, 0}, {api.OpFEq, theNaN, theNaN, 0}, {api.OpFEq, theNaN, of(1), 0},
		{api.OpFLess, of(1), of(2), 1}, {api.OpFLess, of(2), of(1), 0}, {api.OpFLess, of(1), of(1), 0}, {api.OpFLess, minus, 0, 0}, {api.OpFLess, of(-2), of(-1), 1}, {api.OpFLess, inf | minus, inf, 1}, {api.OpFLess, theNaN, of(1), 0}, {api.OpFLess, of(1), theNaN, 0}, {api.OpFLess, tiny | minus, 0, 1}, {api.OpFLess, 0, tiny, 1},
	} {
		r := flt
		if x.op >= api.OpFEq {
			r = num
		}
		if got := madeOf(t, x.op, r, flt, x.b, x.c); got != x.want {
			t.Errorf("op %d of %x and %x: %x, want %x", x.op, x.b, x.c, got, x.want)
		}
	}
	// A NaN of any kind makes the one NaN.
	for _, w := range draft.NaNs() {
		for op := api.OpFAdd; op <= api.OpFDiv; op++ {
			if x, y := madeOf(t, op, flt, flt, w, of(1)), madeOf(t, op, flt, flt, of(1), w); x != theNaN || y != theNaN {
				t.Errorf("op %d of %x: %x, %x", op, w, x, y)
			}
		}
	}
}

func TestConversions(t *testing.T) {
	of := math.Float64bits
	for n, want := range map[int]uint64{
		0: 0, 1: of(1), -1: of(-1), 1 << 53: of(0x1p53), 1<<53 + 1: of(0x1p53), 1<<53 + 3: of(0x1p53 + 4), -1<<53 - 1: of(-0x1p53), least: of(-0x1p63), least + 1: of(-0x1p63), least + 512: of(-0x1p63), least + 513: of(-0x1.fffffffffffffp62), greatest: of(0x1p63), greatest - 511: of(0x1p63), greatest - 512: of(0x1.fffffffffffffp62),
	} {
		if got := madeOf(t, api.OpItoF, flt, num, uint64(n), 0); got != want {
			t.Errorf("itof of %d: %x, want %x", n, got, want)
		}
	}
	for w, want := range map[uint64]int{
		0: 0, 1 << 63: 0, of(2.9): 2, of(-2.9): -2, of(0.5): 0, of(-0.5): 0, of(1): 1, 1: 0, of(0x1p62): 1 << 62, of(0x1.fffffffffffffp62): greatest - 1023, of(0x1p63): greatest, of(0x1.0000000000001p63): greatest, of(1e300): greatest, of(math.Inf(1)): greatest, of(-0x1p63): least, of(-0x1.fffffffffffffp62): least + 1024, of(-0x1.0000000000001p63): least, of(-1e300): least, of(math.Inf(-1)): least, theNaN: 0, theNaN | 1<<63: 0, math.MaxUint64: 0,
	} {
		if got := madeOf(t, api.OpFtoI, num, flt, w, 0); int(got) != want {
			t.Errorf("ftoi of %x: %d, want %d", w, int(got), want)
		}
	}
	for _, n := range ints() {
		if got := madeOf(t, api.OpItoF, flt, num, uint64(n), 0); got != flo.FromInt(n) {
			t.Errorf("itof of %d: %x", n, got)
		}
	}
	for _, w := range draft.Floats() {
		if got := madeOf(t, api.OpFtoI, num, flt, w, 0); int(got) != flo.ToInt(w) {
			t.Errorf("ftoi of %x: %d", w, int(got))
		}
	}
}
