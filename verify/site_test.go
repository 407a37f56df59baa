package verify_test

import (
	"math"
	"math/rand"
	"slices"
	"testing"

	"treadle/api"
	"treadle/code"
	"treadle/verify"
)

// The tested function's slots: 0 and 1 ints, 2 and 3 floats, 4 and 13 references, 5 and 6 pointers to anObject, 7 to ints,
// 8 to objects, 12 to single, 9 a channel of int, 10 of float, 11 of pointers to anObject.

// noSlots are slots that there aren't.
func noSlots() []int {
	return []int{least, -64, -1, noSlot, noSlot + 1, 32, 1 << 32, greatest}
}

func TestConstAndPrint(t *testing.T) {
	for _, op := range []int{api.OpConst, api.OpPrint} {
		rows(t, op, row{a: 0}, row{a: 1}, row{a: 2}, row{a: 3})
		for _, a := range []int{4, 5, 7, 9, 13} {
			rows(t, op, row{e: api.ErrKind, a: a})
		}
		for _, a := range noSlots() {
			rows(t, op, row{e: api.ErrSlot, a: a})
		}
	}
	rows(t, api.OpConst, row{a: 1, imm: math.MaxUint64}, row{a: 2, imm: math.MaxUint64}, row{e: api.ErrKind, a: 4, imm: 1})
}

func TestMove(t *testing.T) {
	for _, pair := range [][2]int{{0, 1}, {1, 1}, {3, 2}, {4, 13}, {5, 6}, {7, 7}, {8, 8}, {9, 9}, {11, 11}, {12, 12}} {
		rows(t, api.OpMove, row{a: pair[0], b: pair[1]})
	}
	for _, pair := range [][2]int{{0, 2}, {2, 0}, {0, 4}, {4, 0}, {5, 7}, {5, 12}, {9, 10}, {9, 11}, {5, 11}, {0, 9}, {5, 0}} {
		rows(t, api.OpMove, row{e: api.ErrKind, a: pair[0], b: pair[1]})
	}
	for _, n := range noSlots() {
		rows(t, api.OpMove, row{e: api.ErrSlot, a: n}, row{e: api.ErrSlot, b: n}, row{e: api.ErrSlot, a: n, b: n}, row{e: api.ErrSlot, a: n, b: 5}, row{e: api.ErrSlot, a: 5, b: n})
	}
}

// Instructions of three slots of these kinds: a slot of each is given.
func three(t *testing.T, op, a, b, c int) {
	t.Helper()
	rows(t, op, row{a: a, b: b, c: c})
	for _, other := range []int{0, 2, 4, 5, 7, 9} {
		if other != a {
			rows(t, op, row{e: api.ErrKind, a: other, b: b, c: c})
		}
		if other != b {
			rows(t, op, row{e: api.ErrKind, a: a, b: other, c: c})
		}
		if other != c {
			rows(t, op, row{e: api.ErrKind, a: a, b: b, c: other})
		}
	}
	for _, n := range noSlots() {
		rows(t, op, row{e: api.ErrSlot, a: n, b: b, c: c}, row{e: api.ErrSlot, a: a, b: n, c: c}, row{e: api.ErrSlot, a: a, b: b, c: n})
		// All are looked for ahead of any kind.
		rows(t, op, row{e: api.ErrSlot, a: 4, b: 4, c: n}, row{e: api.ErrSlot, a: 4, b: n, c: c}, row{e: api.ErrSlot, a: n, b: 4, c: 4})
	}
}

func TestThreeSlots(t *testing.T) {
	for op := api.OpAdd; op <= api.OpLess; op++ {
		three(t, op, 0, 0, 0)
	}
	for op := api.OpFAdd; op <= api.OpFDiv; op++ {
		three(t, op, 2, 2, 2)
	}
	three(t, api.OpFEq, 0, 2, 2)
	three(t, api.OpFLess, 0, 2, 2)
}

// Instructions of two slots of these kinds: a slot of each is given.
func two(t *testing.T, op, a, b int) {
	t.Helper()
	rows(t, op, row{a: a, b: b})
	for _, other := range []int{0, 2, 4, 5, 7, 9} {
		if other != a {
			rows(t, op, row{e: api.ErrKind, a: other, b: b})
		}
		if other != b {
			rows(t, op, row{e: api.ErrKind, a: a, b: other})
		}
	}
	for _, n := range noSlots() {
		rows(t, op, row{e: api.ErrSlot, a: n, b: b}, row{e: api.ErrSlot, a: a, b: n}, row{e: api.ErrSlot, a: 5, b: n}, row{e: api.ErrSlot, a: n, b: 5})
	}
}

func TestTwoSlots(t *testing.T) {
	two(t, api.OpItoF, 2, 0)
	two(t, api.OpFtoI, 0, 2)
	two(t, api.OpRecover, 0, 0)
	two(t, api.OpAddr, 4, 0)
	two(t, api.OpSetRef, 4, 0)
	two(t, api.OpGetRef, 0, 4)
}

func TestOneSlot(t *testing.T) {
	for _, op := range []int{api.OpPanic, api.OpSleep, api.OpExit} {
		rows(t, op, row{a: 0}, row{a: 1})
		for _, a := range []int{2, 4, 5, 7, 9} {
			rows(t, op, row{e: api.ErrKind, a: a})
		}
		for _, a := range noSlots() {
			rows(t, op, row{e: api.ErrSlot, a: a})
		}
	}
	rows(t, api.OpYield, row{})
}

func TestPEq(t *testing.T) {
	op := api.OpPEq
	rows(t, op, row{a: 0, b: 5, c: 6}, row{a: 1, b: 7, c: 7}, row{b: 9, c: 9}, row{b: 11, c: 11}, row{b: 12, c: 12})
	rows(t, op, row{e: api.ErrKind, b: 0, c: 0}, row{e: api.ErrKind, b: 2, c: 3}, row{e: api.ErrKind, b: 4, c: 13})
	rows(t, op, row{e: api.ErrKind, b: 5, c: 7}, row{e: api.ErrKind, b: 9, c: 10}, row{e: api.ErrKind, b: 5, c: 11}, row{e: api.ErrKind, b: 5, c: 0}, row{e: api.ErrKind, b: 0, c: 5})
	for _, n := range noSlots() {
		rows(t, op, row{e: api.ErrSlot, a: n, b: 5, c: 6}, row{e: api.ErrSlot, b: n, c: 6}, row{e: api.ErrSlot, b: 5, c: n})
		// B and C are looked at behind A, and together.
		rows(t, op, row{e: api.ErrKind, a: 2, b: n, c: n}, row{e: api.ErrSlot, a: n, b: 0, c: 0}, row{e: api.ErrSlot, b: 0, c: n}, row{e: api.ErrSlot, b: n, c: 0})
	}
}

func TestJumps(t *testing.T) {
	for at := range 3 {
		rows(t, api.OpJump, row{a: at})
		rows(t, api.OpJumpZ, row{a: 1, b: at}, row{e: api.ErrKind, a: 2, b: at}, row{e: api.ErrSlot, a: -1, b: at})
	}
	for _, at := range []int{least, -1, 3, 4, 256, 1 << 32, greatest} {
		rows(t, api.OpJump, row{e: api.ErrJump, a: at})
		rows(t, api.OpJumpZ, row{e: api.ErrJump, b: at}, row{e: api.ErrKind, a: 2, b: at}, row{e: api.ErrKind, a: 4, b: at}, row{e: api.ErrSlot, a: noSlot, b: at})
	}
}

func TestNew(t *testing.T) {
	rows(t, api.OpNew, row{a: 5, b: 0}, row{a: 6, b: 0}, row{a: 12, b: 3})
	rows(t, api.OpNewArr, row{a: 7, b: 1}, row{a: 8, b: 2, c: 1})
	for _, b := range []int{least, -1, 4, 5, 32, greatest} {
		rows(t, api.OpNew, row{e: api.ErrType, a: 5, b: b}, row{e: api.ErrType, a: -1, b: b})
		rows(t, api.OpNewArr, row{e: api.ErrType, a: 7, b: b}, row{e: api.ErrType, a: -1, b: b, c: -1})
	}
	rows(t, api.OpNew, row{e: api.ErrType, a: 7, b: 1}, row{e: api.ErrType, a: 8, b: 2}, row{e: api.ErrType, a: -1, b: 1})
	rows(t, api.OpNewArr, row{e: api.ErrType, a: 5, b: 0}, row{e: api.ErrType, a: 12, b: 3}, row{e: api.ErrType, a: -1, b: 0, c: 2})
	for _, a := range []int{0, 2, 4, 7, 9, 11, 12} {
		rows(t, api.OpNew, row{e: api.ErrKind, a: a})
	}
	for _, a := range []int{0, 2, 4, 5, 8, 9, 11} {
		rows(t, api.OpNewArr, row{e: api.ErrKind, a: a, b: 1})
	}
	rows(t, api.OpNewArr, row{e: api.ErrKind, a: 7, b: 1, c: 2}, row{e: api.ErrKind, a: 7, b: 1, c: 4})
	for _, n := range noSlots() {
		rows(t, api.OpNew, row{e: api.ErrSlot, a: n})
		rows(t, api.OpNewArr, row{e: api.ErrSlot, a: n, b: 1}, row{e: api.ErrSlot, a: 7, b: 1, c: n}, row{e: api.ErrSlot, a: 5, b: 1, c: n}, row{e: api.ErrSlot, a: n, b: 1, c: 2})
	}
}

func TestLen(t *testing.T) {
	op := api.OpLen
	rows(t, op, row{a: 0, b: 7}, row{a: 1, b: 8})
	for _, b := range []int{0, 2, 4, 9, 11} {
		rows(t, op, row{e: api.ErrKind, b: b}, row{e: api.ErrKind, a: -1, b: b})
	}
	rows(t, op, row{e: api.ErrType, b: 5}, row{e: api.ErrType, b: 12}, row{e: api.ErrType, a: -1, b: 5}, row{e: api.ErrType, a: 2, b: 5})
	rows(t, op, row{e: api.ErrKind, a: 2, b: 7}, row{e: api.ErrKind, a: 7, b: 7})
	for _, n := range noSlots() {
		rows(t, op, row{e: api.ErrSlot, b: n}, row{e: api.ErrSlot, a: 2, b: n}, row{e: api.ErrSlot, a: n, b: 7})
	}
}

// on gives a row of an object's slot and a value's, as load has them or as store.
func on(load bool, e api.Errno, object, value, c int) row {
	if load {
		return row{e: e, a: value, b: object, c: c}
	}
	return row{e: e, a: object, b: value, c: c}
}

func TestLoadAndStore(t *testing.T) {
	for _, load := range []bool{true, false} {
		op := api.OpStore
		if load {
			op = api.OpLoad
		}
		for c, value := range []int{1, 2, 6, 9} {
			rows(t, op, on(load, api.OK, 5, value, c))
			for _, other := range []int{1, 2, 4, 6, 7, 9, 10} {
				if other != value {
					rows(t, op, on(load, api.ErrKind, 5, other, c))
				}
			}
			for _, n := range noSlots() {
				rows(t, op, on(load, api.ErrSlot, 5, n, c))
			}
		}
		rows(t, op, on(load, api.OK, 12, 3, 0), on(load, api.ErrType, 12, 3, 1))
		for _, c := range []int{least, -1, 4, 5, 16, greatest} {
			rows(t, op, on(load, api.ErrType, 5, 0, c), on(load, api.ErrType, 5, -1, c), on(load, api.ErrType, 5, 4, c))
		}
		for _, object := range []int{0, 2, 4, 9, 11} {
			rows(t, op, on(load, api.ErrKind, object, 0, 0), on(load, api.ErrKind, object, -1, 0), on(load, api.ErrKind, object, 0, -1))
		}
		rows(t, op, on(load, api.ErrType, 7, 0, 0), on(load, api.ErrType, 8, 5, 0), on(load, api.ErrType, 7, -1, 0))
		for _, n := range noSlots() {
			rows(t, op, on(load, api.ErrSlot, n, 0, 0), on(load, api.ErrSlot, n, 4, -1))
		}
	}
}

func TestLoadXAndStoreX(t *testing.T) {
	for _, load := range []bool{true, false} {
		op := api.OpStoreX
		if load {
			op = api.OpLoadX
		}
		rows(t, op, on(load, api.OK, 7, 0, 1), on(load, api.OK, 7, 1, 1), on(load, api.OK, 8, 5, 0), on(load, api.OK, 8, 6, 1))
		for _, value := range []int{0, 2, 4, 7, 8, 11} {
			rows(t, op, on(load, api.ErrKind, 8, value, 0))
		}
		for _, c := range []int{2, 4, 5, 7, 9} {
			rows(t, op, on(load, api.ErrKind, 7, 0, c), on(load, api.ErrKind, 8, 5, c))
		}
		for _, array := range []int{0, 2, 4, 9, 11} {
			rows(t, op, on(load, api.ErrKind, array, 0, 0), on(load, api.ErrKind, array, -1, -1))
		}
		rows(t, op, on(load, api.ErrType, 5, 0, 0), on(load, api.ErrType, 12, 2, 0), on(load, api.ErrType, 5, -1, -1))
		for _, n := range noSlots() {
			rows(t, op, on(load, api.ErrSlot, n, 0, 0), on(load, api.ErrSlot, n, 4, 2), on(load, api.ErrSlot, 7, n, 0), on(load, api.ErrSlot, 7, 0, n))
			// The value and the element's number are looked at together.
			rows(t, op, on(load, api.ErrSlot, 7, 2, n), on(load, api.ErrSlot, 7, n, 2))
		}
	}
}

func TestGetAndSet(t *testing.T) {
	for global, slot := range []int{1, 2, 6, 9} {
		rows(t, api.OpGet, row{a: slot, b: global})
		rows(t, api.OpSet, row{a: global, b: slot})
		for _, other := range []int{1, 2, 4, 6, 7, 9, 10} {
			if other != slot {
				rows(t, api.OpGet, row{e: api.ErrKind, a: other, b: global})
				rows(t, api.OpSet, row{e: api.ErrKind, a: global, b: other})
			}
		}
		for _, n := range noSlots() {
			rows(t, api.OpGet, row{e: api.ErrSlot, a: n, b: global})
			rows(t, api.OpSet, row{e: api.ErrSlot, a: global, b: n})
		}
	}
	for _, global := range []int{least, -1, 4, 5, 32, greatest} {
		rows(t, api.OpGet, row{e: api.ErrGlobal, b: global}, row{e: api.ErrGlobal, a: -1, b: global}, row{e: api.ErrGlobal, a: 4, b: global})
		rows(t, api.OpSet, row{e: api.ErrGlobal, a: global}, row{e: api.ErrGlobal, a: global, b: -1}, row{e: api.ErrGlobal, a: global, b: 4})
	}
}

func TestCall(t *testing.T) {
	op := api.OpCall
	rows(t, op, row{a: 0}, row{a: 0, list: []int{}})
	rows(t, op, row{a: 2, list: []int{0, 2, 1}}, row{a: 2, list: []int{1, 3, 1}}, row{a: 3, list: []int{0, 4}}, row{a: 3, list: []int{1, 13}})
	rows(t, op, row{a: 4, list: []int{0, 6}}, row{a: 5, list: []int{2, 2}}, row{a: 6, list: []int{4, 0}}, row{a: 1, list: []int{0, 2}})
	for _, a := range []int{least, -1, 7, 8, 32, greatest} {
		rows(t, op, row{e: api.ErrFunc, a: a}, row{e: api.ErrFunc, a: a, list: []int{-1}})
	}
	for _, list := range [][]int{nil, {0}, {0, 2}, {0, 2, 1, 1}, {-1}, {-1, 5}, {0, 2, 1, -1}} {
		rows(t, op, row{e: api.ErrCount, a: 2, list: list})
	}
	rows(t, op, row{e: api.ErrCount, a: 0, list: []int{0}}, row{e: api.ErrCount, a: 5, list: []int{2}})
	for _, list := range [][]int{{2, 2, 1}, {0, 0, 1}, {0, 2, 2}, {4, 2, 1}, {0, 2, 4}} {
		rows(t, op, row{e: api.ErrKind, a: 2, list: list})
	}
	rows(t, op, row{e: api.ErrKind, a: 3, list: []int{0, 0}}, row{e: api.ErrKind, a: 4, list: []int{0, 7}}, row{e: api.ErrKind, a: 6, list: []int{0, 0}})
	for _, n := range noSlots() {
		rows(t, op, row{e: api.ErrSlot, a: 2, list: []int{n, 2, 1}}, row{e: api.ErrSlot, a: 2, list: []int{0, n, 1}}, row{e: api.ErrSlot, a: 2, list: []int{0, 2, n}})
		rows(t, op, row{e: api.ErrSlot, a: 2, list: []int{4, 4, n}}, row{e: api.ErrSlot, a: 2, list: []int{n, 4, 4}})
	}
}

func TestRet(t *testing.T) {
	op := api.OpRet
	rows(t, op, row{list: []int{0, 2}}, row{list: []int{1, 3}})
	for _, list := range [][]int{nil, {}, {0}, {0, 2, 0}, {-1}, {-1, -1, -1}} {
		rows(t, op, row{e: api.ErrCount, list: list})
	}
	for _, list := range [][]int{{2, 0}, {0, 0}, {2, 2}, {4, 2}, {0, 9}} {
		rows(t, op, row{e: api.ErrKind, list: list})
	}
	for _, n := range noSlots() {
		rows(t, op, row{e: api.ErrSlot, list: []int{n, 2}}, row{e: api.ErrSlot, list: []int{0, n}}, row{e: api.ErrSlot, list: []int{2, n}}, row{e: api.ErrSlot, list: []int{n, 0}})
	}
	// Of a function without results.
	p := world(api.Ins{Op: api.OpYield})
	p.Funcs[0].Slots = []api.Kind{api.KInt}
	p.Funcs[0].Code[0].List = []int{0}
	checks(t, p, api.Fault{E: api.ErrCount})
}

func TestGoAndDefer(t *testing.T) {
	for _, op := range []int{api.OpGo, api.OpDefer} {
		rows(t, op, row{a: 0}, row{a: 0, list: []int{}}, row{a: 4, list: []int{0, 5}}, row{a: 4, list: []int{1, 6}})
		for _, a := range []int{least, -1, 7, 8, 32, greatest} {
			rows(t, op, row{e: api.ErrFunc, a: a}, row{e: api.ErrFunc, a: a, list: []int{-1}})
		}
		// Functions with results, with a reference among the parameters, too.
		for _, a := range []int{1, 2, 5, 6} {
			rows(t, op, row{e: api.ErrFunc, a: a}, row{e: api.ErrFunc, a: a, list: []int{0, 2, 1}})
		}
		// A reference among the parameters, whatever the list is.
		for _, list := range [][]int{{0, 4}, nil, {0}, {-1, -1}, {0, 4, 0}} {
			rows(t, op, row{e: api.ErrKind, a: 3, list: list})
		}
		for _, list := range [][]int{nil, {0}, {0, 5, 2}, {-1}, {-1, -1, -1}} {
			rows(t, op, row{e: api.ErrCount, a: 4, list: list})
		}
		rows(t, op, row{e: api.ErrCount, a: 0, list: []int{0}})
		for _, list := range [][]int{{2, 5}, {0, 0}, {0, 7}, {4, 5}} {
			rows(t, op, row{e: api.ErrKind, a: 4, list: list})
		}
		for _, n := range noSlots() {
			rows(t, op, row{e: api.ErrSlot, a: 4, list: []int{n, 5}}, row{e: api.ErrSlot, a: 4, list: []int{0, n}}, row{e: api.ErrSlot, a: 4, list: []int{2, n}}, row{e: api.ErrSlot, a: 4, list: []int{n, 2}})
		}
	}
	// A reference that is a slot, but no parameter, is none.
	p := world(api.Ins{Op: api.OpGo, A: 3, List: []int{0}})
	p.Funcs[3].Params = 1
	checks(t, p, api.Fault{})
}

func TestChan(t *testing.T) {
	op := api.OpChan
	for _, imm := range []uint64{0, 1, 15, api.MaxCap} {
		rows(t, op, row{a: 9, imm: imm}, row{a: 10, imm: imm}, row{a: 11, imm: imm})
		for _, a := range []int{0, 2, 4, 5, 7} {
			rows(t, op, row{e: api.ErrKind, a: a, imm: imm})
		}
		for _, a := range noSlots() {
			rows(t, op, row{e: api.ErrSlot, a: a, imm: imm})
		}
	}
	for _, imm := range []uint64{api.MaxCap + 1, 18, 65536, 1 << 32, 1 << 63, math.MaxUint64} {
		for _, a := range []int{9, 0, -1, noSlot} {
			rows(t, op, row{e: api.ErrCount, a: a, imm: imm})
		}
	}
}

func TestClose(t *testing.T) {
	op := api.OpClose
	rows(t, op, row{a: 9}, row{a: 10}, row{a: 11})
	for _, a := range []int{0, 2, 4, 5, 7} {
		rows(t, op, row{e: api.ErrKind, a: a})
	}
	for _, a := range noSlots() {
		rows(t, op, row{e: api.ErrSlot, a: a})
	}
	rows(t, op, row{e: api.ErrForm, a: 9, imm: 1}, row{e: api.ErrForm, a: 9, imm: api.MaxCap + 1})
}

func TestSendAndRecv(t *testing.T) {
	for channel, value := range map[int]int{9: 1, 10: 2, 11: 5} {
		rows(t, api.OpSend, row{a: channel, b: value})
		rows(t, api.OpRecv, row{a: value, b: channel}, row{a: value, b: channel, c: 1})
		for _, other := range []int{0, 2, 4, 5, 7, 9} {
			if other != value && (other != 0 || value != 1) {
				rows(t, api.OpSend, row{e: api.ErrKind, a: channel, b: other})
				rows(t, api.OpRecv, row{e: api.ErrKind, a: other, b: channel})
			}
			if other != 0 {
				rows(t, api.OpRecv, row{e: api.ErrKind, a: value, b: channel, c: other})
			}
		}
		for _, n := range noSlots() {
			rows(t, api.OpSend, row{e: api.ErrSlot, a: channel, b: n})
			rows(t, api.OpRecv, row{e: api.ErrSlot, a: n, b: channel}, row{e: api.ErrSlot, a: value, b: channel, c: n})
			// Where the value goes and whether it came are looked at together.
			rows(t, api.OpRecv, row{e: api.ErrSlot, a: n, b: channel, c: 4}, row{e: api.ErrSlot, a: 4, b: channel, c: n})
		}
	}
	// The channel comes first.
	for _, other := range []int{0, 2, 4, 5, 7} {
		rows(t, api.OpSend, row{e: api.ErrKind, a: other, b: 0}, row{e: api.ErrKind, a: other, b: -1})
		rows(t, api.OpRecv, row{e: api.ErrKind, a: 0, b: other}, row{e: api.ErrKind, a: -1, b: other, c: -1})
	}
	for _, n := range noSlots() {
		rows(t, api.OpSend, row{e: api.ErrSlot, a: n}, row{e: api.ErrSlot, a: n, b: 4})
		rows(t, api.OpRecv, row{e: api.ErrSlot, b: n}, row{e: api.ErrSlot, a: 4, b: n, c: 4})
	}
}

func TestSelect(t *testing.T) {
	op := api.OpSelect
	for b := range 2 {
		rows(t, op, row{b: b}, row{a: 1, b: b, list: []int{}})
		rows(t, op, row{b: b, list: []int{0, 9, 1}}, row{b: b, list: []int{1, 9, 1}}, row{b: b, list: []int{0, 10, 2, 1, 11, 5, 1, 9, 0}})
		// What receives a case's number is looked at last.
		rows(t, op, row{e: api.ErrKind, a: 2, b: b}, row{e: api.ErrKind, a: 4, b: b, list: []int{0, 9, 1}}, row{e: api.ErrKind, a: -1, b: b, list: []int{0, 9, 2}})
		for _, n := range noSlots() {
			rows(t, op, row{e: api.ErrSlot, a: n, b: b}, row{e: api.ErrSlot, a: n, b: b, list: []int{1, 9, 1}}, row{e: api.ErrForm, a: n, b: b, list: []int{2, 9, 1}})
		}
		for _, list := range [][]int{{0}, {0, 9}, {0, 9, 1, 1}, {0, 9, 1, 1, 9}, {2}, {-1, -1}, {2, -1, -1, 2}} {
			rows(t, op, row{e: api.ErrCount, b: b, list: list})
		}
	}
	for _, b := range []int{least, -1, 2, 3, 1 << 32, greatest} {
		rows(t, op, row{e: api.ErrCount, b: b}, row{e: api.ErrCount, a: -1, b: b, list: []int{2, -1, -1}})
	}
	for _, n := range []int{least, -1, 2, 3, 9, greatest} {
		rows(t, op, row{e: api.ErrForm, list: []int{n, 9, 1}}, row{e: api.ErrForm, list: []int{n, -1, -1}}, row{e: api.ErrForm, list: []int{0, 9, 1, n, 9, 1}})
	}
	// A case by a case, and of each case its channel ahead of its slot.
	for sort := range 2 {
		for _, n := range noSlots() {
			rows(t, op, row{e: api.ErrSlot, list: []int{sort, n, 1}}, row{e: api.ErrSlot, list: []int{sort, 9, n}}, row{e: api.ErrKind, list: []int{sort, 0, n}})
			rows(t, op, row{e: api.ErrKind, list: []int{sort, 9, 2, 0, n, 0}}, row{e: api.ErrSlot, list: []int{sort, n, 2, 2, 9, 1}})
		}
		for _, other := range []int{0, 2, 4, 5, 7} {
			rows(t, op, row{e: api.ErrKind, list: []int{sort, other, 1}})
		}
		for _, other := range []int{2, 4, 5, 9} {
			rows(t, op, row{e: api.ErrKind, list: []int{sort, 9, other}}, row{e: api.ErrKind, list: []int{sort, 9, 1, sort, 9, other}})
		}
	}
}

// at is what Check is to answer of an instruction of world.
func at(p api.Program) api.Fault {
	ins := p.Funcs[tested].Code[place]
	if e := (look{p, p.Funcs[tested], ins}).instruction(); e != api.OK {
		return api.Fault{E: e, Func: tested, At: place}
	}
	return api.Fault{}
}

// Every instruction with every slot, and with those next to them, against the model.
func TestEveryInstruction(t *testing.T) {
	p := world(api.Ins{})
	ins := &p.Funcs[tested].Code[place]
	for op := 0; op <= api.MaxOp+1; op++ {
		for a := -1; a <= noSlot; a++ {
			for b := -1; b <= noSlot; b++ {
				for c := -1; c <= noSlot; c++ {
					*ins = api.Ins{Op: op, A: a, B: b, C: c}
					if got, want := verify.Check(p), at(p); got != want {
						t.Fatalf("Check of %v: %v, want %v", *ins, got, want)
					}
				}
			}
		}
	}
}

// Every list of up to three numbers, of each instruction that has one, against the model.
func TestEveryShortList(t *testing.T) {
	p := world(api.Ins{})
	ins := &p.Funcs[tested].Code[place]
	for _, op := range []int{api.OpCall, api.OpRet, api.OpGo, api.OpDefer, api.OpSelect} {
		for a := range 8 {
			for x := -1; x <= noSlot; x++ {
				for y := -1; y <= noSlot; y++ {
					for z := -2; z <= noSlot; z++ {
						list := []int{x, y, z}
						if z == -2 {
							list = list[:2]
						}
						*ins = api.Ins{Op: op, A: a, List: list}
						if got, want := verify.Check(p), at(p); got != want {
							t.Fatalf("Check of %v: %v, want %v", *ins, got, want)
						}
					}
				}
			}
		}
	}
}

// maker makes programs that are nearly right.
type maker struct {
	r     *rand.Rand
	wrong int // one number of so many is any one
}

// any is a number, if one is to be wrong; else n.
func (m maker) any(n int) int {
	if m.wrong == 0 || m.r.Intn(m.wrong) > 0 {
		return n
	}
	return []int{-1, 0, 1, 2, 3, 15, 16, 17, 32, 33, 63, 64, 66, 80, 128, least, greatest}[m.r.Intn(17)]
}

// below is a number from 0 on, below n, or any one.
func (m maker) below(n int) int {
	return m.any(m.r.Intn(max(n, 1)))
}

// kind is one that there is, or any one.
func (m maker) kind(types int) api.Kind {
	all := kinds(min(types, api.MaxTypes))
	return api.Kind(m.any(int(all[m.r.Intn(len(all))])))
}

func (m maker) kinds(n, types int) []api.Kind {
	list := make([]api.Kind, n)
	for i := range list {
		list[i] = m.kind(types)
	}
	return list
}

// with are slots of these kinds as far as there are any.
func (m maker) with(f api.Func, kinds []api.Kind) []int {
	list := make([]int, len(kinds))
	for i, k := range kinds {
		list[i] = m.any(max(0, slices.Index(f.Slots, k)))
	}
	return list
}

// instruction is one whose fields are mostly numbers that it may have.
func (m maker) instruction(p api.Program, f api.Func, size int) api.Ins {
	ins := api.Ins{Op: m.any(1 + m.r.Intn(api.MaxOp)), A: m.any(0), B: m.any(0), C: m.any(0), Imm: uint64(m.any(0))}
	for _, field := range every[ins.Op].uses {
		switch field {
		case 'A':
			ins.A = m.below([]int{len(f.Slots), len(p.Funcs), len(p.Globals), size}[m.r.Intn(4)])
		case 'B':
			ins.B = m.below([]int{len(f.Slots), len(p.Types), len(p.Globals), size}[m.r.Intn(4)])
		case 'C':
			ins.C = m.below(len(f.Slots))
		case 'I':
			ins.Imm = uint64(m.below(api.MaxCap + 1))
		case 'L':
			ins.List = m.list(p, f, ins)
		}
	}
	return ins
}

// list is an instruction's list of mostly right numbers.
func (m maker) list(p api.Program, f api.Func, ins api.Ins) []int {
	if ins.Op == api.OpSelect {
		var list []int
		for range m.r.Intn(4) {
			list = append(list, m.below(2), m.below(len(f.Slots)), m.below(len(f.Slots)))
		}
		return list
	}
	wanted := f.Results
	if g := ins.A; ins.Op != api.OpRet && among(g, len(p.Funcs)) && among(p.Funcs[g].Params, len(p.Funcs[g].Slots)+1) {
		wanted = append(slices.Clone(p.Funcs[g].Slots[:p.Funcs[g].Params]), p.Funcs[g].Results...)
	}
	return m.with(f, wanted)
}

// program is one of a few types, globals and functions.
func (m maker) program() api.Program {
	types := m.r.Intn(4)
	p := api.Program{Types: make([]api.Type, types), Globals: m.kinds(m.r.Intn(4), types), Funcs: make([]api.Func, 1+m.r.Intn(4))}
	for i := range p.Types {
		p.Types[i] = api.Type{Fields: m.kinds(m.any(1+m.r.Intn(3))&31, types)}
		p.Types[i].Array = len(p.Types[i].Fields) == 1 && m.r.Intn(2) == 0
	}
	for i := range p.Funcs {
		f := &p.Funcs[i]
		f.Slots = m.kinds(m.any(4+m.r.Intn(8))&63, types)
		f.Slots = append(f.Slots, api.KInt, api.KRef)
		if i > 0 {
			f.Params = m.below(4)
			f.Results = m.kinds(m.r.Intn(3), types)
		}
	}
	for i := range p.Funcs {
		p.Funcs[i].Code = []api.Ins{{Op: api.OpJump}}
	}
	sound := model(p) == api.Fault{}
	for i := range p.Funcs {
		p.Funcs[i].Code = m.code(p, p.Funcs[i], sound)
	}
	return p
}

// code are a function's instructions: where all else is sound, each one that the model finds right, or now and then any one.
func (m maker) code(p api.Program, f api.Func, sound bool) []api.Ins {
	size := 1 + m.r.Intn(3)
	f.Code = make([]api.Ins, size+1)
	for i := range size {
		for range 40 {
			f.Code[i] = m.instruction(p, f, size)
			if !sound || m.wrong > 0 && m.r.Intn(m.wrong) == 0 || (look{p, f, f.Code[i]}).instruction() == api.OK {
				break
			}
		}
	}
	f.Code[size] = api.Ins{Op: m.any(api.OpJump), A: m.below(size)}
	return f.Code
}

// Programs that are right, or nearly so, against the model. Those that are wrong are written and read, too.
func TestManyPrograms(t *testing.T) {
	r := rand.New(rand.NewSource(9))
	seen := map[api.Errno]int{}
	for i := range 12000 {
		p := maker{r, []int{0, 300, 60, 12}[i%4]}.program()
		want := model(p)
		seen[want.E]++
		checks(t, p, want)
		if b, e := code.Encode(p); e == api.OK {
			q, fault := code.Decode(b)
			if fault != (api.Fault{}) {
				t.Errorf("Decode: %v", fault)
			}
			checks(t, q, want)
		}
	}
	for e := api.OK; e <= api.ErrCount; e++ {
		if wanted := e == api.OK || e >= api.ErrForm || e == api.ErrEnd; wanted != (seen[e] > 0) {
			t.Errorf("%d programs with the error %d", seen[e], e)
		}
	}
}

// What a call answers hangs on nothing that was asked ahead of it.
func TestAskedAgain(t *testing.T) {
	for range 2 {
		checks(t, world(api.Ins{Op: api.OpYield}), api.Fault{})
		checks(t, world(api.Ins{Op: api.OpJump, A: -1}), api.Fault{E: api.ErrJump, Func: tested, At: place})
		checks(t, api.Program{}, api.Fault{E: api.ErrCount, Func: -1})
	}
}

// The greatest program that there may be is right.
func TestGreatestProgram(t *testing.T) {
	p := api.Program{Types: someTypes(api.MaxTypes), Globals: make([]api.Kind, api.MaxGlobal), Funcs: make([]api.Func, api.MaxFuncs)}
	list := make([]int, api.MaxList)
	for i := range p.Types {
		p.Types[i].Fields = slices.Repeat([]api.Kind{api.Chan + api.Ptr + api.Kind(i)}, api.MaxFields)
	}
	for i := range p.Funcs {
		f := &p.Funcs[i]
		f.Slots = make([]api.Kind, api.MaxSlots)
		f.Code = slices.Repeat([]api.Ins{{Op: api.OpCall, A: api.MaxFuncs - 1, List: list}}, api.MaxCode)
		f.Code[api.MaxCode-1] = api.Ins{Op: api.OpJump, A: api.MaxCode - 1}
	}
	p.Funcs[api.MaxFuncs-1].Params = api.MaxList
	checks(t, p, api.Fault{})
	last := p.Funcs[api.MaxFuncs-1].Code
	last[api.MaxCode-2] = api.Ins{Op: api.OpConst, A: api.MaxSlots - 1}
	checks(t, p, api.Fault{})
	last[api.MaxCode-2].A++
	checks(t, p, api.Fault{E: api.ErrSlot, Func: api.MaxFuncs - 1, At: api.MaxCode - 2})
}

// A call that panics fails the test by itself.
func FuzzInstruction(f *testing.F) {
	for op := 0; op <= api.MaxOp+1; op++ {
		f.Add(op, 0, 1, 0, uint64(0), []byte{0, 9, 1})
		f.Add(op, 5, 5, 5, uint64(0), []byte{})
	}
	f.Add(least, greatest, least, greatest, uint64(math.MaxUint64), []byte{255})
	f.Fuzz(func(t *testing.T, op, a, b, c int, imm uint64, list []byte) {
		ins := api.Ins{Op: op, A: a, B: b, C: c, Imm: imm}
		for _, x := range list {
			ins.List = append(ins.List, int(int8(x)))
		}
		p := world(ins)
		checks(t, p, at(p))
	})
}

func FuzzProgram(f *testing.F) {
	f.Add([]byte{0, 0, 1, 0, 0, 0, 0})
	b, _ := code.Encode(world(api.Ins{Op: api.OpSelect, List: []int{0, 9, 1}}))
	f.Add(b)
	f.Fuzz(func(t *testing.T, b []byte) {
		p, fault := code.Decode(b)
		if fault.E == api.OK {
			checks(t, p, model(p))
		}
	})
}
