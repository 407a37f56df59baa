package sense_test

import (
	"math"
	"math/rand"
	"reflect"
	"testing"

	"treadle/api"
	"treadle/draft"
	"treadle/flo"
	"treadle/sense"
)

func TestOwnIsTheSameProgramApart(t *testing.T) {
	for seed := range int64(20) {
		write := func() api.Program { return draft.Roomy(draft.Written(rand.New(rand.NewSource(seed)).Intn)) }
		p := write()
		before := draft.Whole(p)
		own := sense.Own(p)
		if !reflect.DeepEqual(own, p) || !reflect.DeepEqual(before, draft.Whole(p)) {
			t.Fatal("it is another program, or that has changed")
		}
		draft.Spoil(p)
		if !reflect.DeepEqual(own, write()) {
			t.Fatal("it changes with the other one")
		}
		// Nor does the other one change with it.
		p = write()
		draft.Spoil(sense.Own(p))
		if !reflect.DeepEqual(p, write()) {
			t.Fatal("the other one changes with it")
		}
	}
}

// row is what an instruction makes of two ints.
type row struct{ b, c, want int }

func TestReckonInts(t *testing.T) {
	const least, greatest = draft.Least, draft.Greatest
	for op, rows := range map[int][]row{
		api.OpAdd:  {{3, 4, 7}, {greatest, 1, least}, {least, least, 0}},
		api.OpSub:  {{3, 4, -1}, {least, 1, greatest}, {0, least, least}},
		api.OpMul:  {{-3, 4, -12}, {greatest, 2, -2}, {least, -1, least}, {1 << 32, 1 << 32, 0}},
		api.OpDiv:  {{7, 2, 3}, {-7, 2, -3}, {7, -2, -3}, {-7, -2, 3}, {least, -1, least}, {0, 5, 0}},
		api.OpMod:  {{7, 2, 1}, {-7, 2, -1}, {7, -2, 1}, {-7, -2, -1}, {least, -1, 0}, {least, 10, -8}},
		api.OpAnd:  {{12, 10, 8}, {-1, 5, 5}, {least, greatest, 0}},
		api.OpOr:   {{12, 10, 14}, {-1, 5, -1}, {least, greatest, -1}},
		api.OpXor:  {{12, 10, 6}, {-1, 5, -6}, {7, 7, 0}},
		api.OpShl:  {{1, 0, 1}, {1, 63, least}, {1, 64, 1}, {5, -63, 10}, {1, least + 1, 2}, {-5, 1, -10}},
		api.OpShr:  {{8, 3, 1}, {-8, 4, -1}, {greatest, 62, 1}, {-8, 64, -8}, {8, -63, 4}, {least, -1, -1}},
		api.OpEq:   {{0, 0, 1}, {0, 1, 0}, {least, greatest, 0}, {-1, -1, 1}},
		api.OpPEq:  {{0, 0, 1}, {0, 65, 0}, {65, 65, 1}, {65, 66, 0}},
		api.OpLess: {{0, 0, 0}, {-1, 0, 1}, {0, -1, 0}, {least, greatest, 1}, {greatest, least, 0}},
	} {
		for _, x := range rows {
			if got, ok := sense.Reckon(op, uint64(x.b), uint64(x.c)); !ok || int(got) != x.want {
				t.Errorf("op %d of %d and %d: %d, %v, want %d", op, x.b, x.c, int(got), ok, x.want)
			}
		}
	}
	for _, op := range []int{api.OpDiv, api.OpMod} {
		for _, b := range []int{0, 1, -1, least, greatest} {
			if got, ok := sense.Reckon(op, uint64(b), 0); ok || got != 0 {
				t.Errorf("op %d of %d and 0: %d, %v", op, b, got, ok)
			}
		}
	}
}

func TestReckonFloats(t *testing.T) {
	all := draft.Floats()
	for op, f := range map[int]func(b, c uint64) uint64{
		api.OpFAdd: flo.Add, api.OpFSub: flo.Sub, api.OpFMul: flo.Mul, api.OpFDiv: flo.Div,
		api.OpFEq:   func(b, c uint64) uint64 { return sense.Truth(flo.Equal(b, c)) },
		api.OpFLess: func(b, c uint64) uint64 { return sense.Truth(flo.Less(b, c)) },
		api.OpItoF:  func(b, c uint64) uint64 { return flo.FromInt(int(b)) },
		api.OpFtoI:  func(b, c uint64) uint64 { return uint64(flo.ToInt(b)) },
	} {
		for _, b := range all {
			for _, c := range all {
				if got, ok := sense.Reckon(op, b, c); !ok || got != f(b, c) {
					t.Errorf("op %d of %x and %x: %x, %v, want %x", op, b, c, got, ok, f(b, c))
				}
			}
		}
	}
}

func TestTruth(t *testing.T) {
	if sense.Truth(true) != 1 || sense.Truth(false) != 0 {
		t.Errorf("%d, %d", sense.Truth(true), sense.Truth(false))
	}
}

func TestConst(t *testing.T) {
	for _, w := range append(draft.Floats(), 0, 1, math.MaxUint64) {
		if got := sense.Const(api.KInt, w); got != w {
			t.Errorf("an int %x: %x", w, got)
		}
		if got := sense.Const(api.KFloat, w); got != flo.Canon(w) {
			t.Errorf("a float %x: %x", w, got)
		}
	}
}

func TestCases(t *testing.T) {
	for n := range api.MaxList/3 + 1 {
		ins := api.Ins{Op: api.OpSelect}
		var want []sense.Case
		for i := range n {
			ins.List = append(ins.List, i%2, 10+i, 20+i)
			want = append(want, sense.Case{Send: i%2 == 0, Channel: 10 + i, Slot: 20 + i})
		}
		if got := sense.Cases(ins); got != n {
			t.Errorf("%d cases, want %d", got, n)
		}
		for i, c := range want {
			if got := sense.CaseOf(ins, i); got != c {
				t.Errorf("the case %d: %v, want %v", i, got, c)
			}
		}
	}
}

// By the number of a waiter the goroutine and its case are found again; no two have one.
func TestWaiters(t *testing.T) {
	seen := map[int]int{}
	for g := range api.MaxGs {
		for number := range api.MaxList / 3 {
			w := sense.Waiter(g, number)
			seen[w]++
			if x, y := sense.Waits(w); x != g || y != number || seen[w] > 1 {
				t.Errorf("%d, %d: %d: %d, %d", g, number, w, x, y)
			}
		}
	}
}
