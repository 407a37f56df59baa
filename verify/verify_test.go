package verify_test

import (
	"math"
	"reflect"
	"slices"
	"testing"

	"treadle/api"
	"treadle/verify"
)

// The greatest and the least numbers of ints and of kinds.
const (
	least    = math.MinInt
	greatest = math.MaxInt
)

// checks fails the test if Check answers another fault.
func checks(t testing.TB, p api.Program, want api.Fault) {
	t.Helper()
	if got := verify.Check(p); got != want {
		t.Errorf("Check(%v): %v, want %v", p, got, want)
	}
}

// alone is a program of one function of these slots and instructions.
func alone(slots []api.Kind, code ...api.Ins) api.Program {
	return api.Program{Funcs: []api.Func{{Slots: slots, Code: code}}}
}

// returns is the instruction that may end each function without results.
var returns = api.Ins{Op: api.OpRet}

// The kinds of world's types.
const (
	anObject = api.Ptr + iota // int, float, pointer to its type, channel of int
	ints                      // array of int
	objects                   // array of anObject
	single                    // float
)

// The function of world in which instructions are looked at, and where.
const (
	tested = 1
	place  = 1
)

// noSlot is the first slot that the tested function hasn't.
const noSlot = 14

// world is a program in which an instruction is looked at.
func world(ins api.Ins) api.Program {
	return api.Program{
		Types: []api.Type{
			{Fields: []api.Kind{api.KInt, api.KFloat, anObject, api.Chan + api.KInt}},
			{Array: true, Fields: []api.Kind{api.KInt}},
			{Array: true, Fields: []api.Kind{anObject}},
			{Fields: []api.Kind{api.KFloat}},
		},
		Globals: []api.Kind{api.KInt, api.KFloat, anObject, api.Chan + api.KInt},
		Funcs: []api.Func{
			{Code: []api.Ins{returns}},
			{
				Slots: []api.Kind{
					0: api.KInt, 1: api.KInt, 2: api.KFloat, 3: api.KFloat, 4: api.KRef, 5: anObject, 6: anObject, 7: ints, 8: objects,
					9: api.Chan + api.KInt, 10: api.Chan + api.KFloat, 11: api.Chan + anObject, 12: single, 13: api.KRef,
				},
				Results: []api.Kind{api.KInt, api.KFloat},
				Code:    []api.Ins{{Op: api.OpYield}, ins, {Op: api.OpJump}},
			},
			{Params: 2, Slots: []api.Kind{api.KInt, api.KFloat, api.KRef}, Results: []api.Kind{api.KInt}, Code: []api.Ins{{Op: api.OpJump}}},
			{Params: 2, Slots: []api.Kind{api.KInt, api.KRef}, Code: []api.Ins{returns}},
			{Params: 2, Slots: []api.Kind{api.KInt, anObject, api.KFloat}, Code: []api.Ins{returns}},
			{Results: []api.Kind{api.KFloat, api.KFloat}, Code: []api.Ins{{Op: api.OpJump}}},
			{Params: 1, Slots: []api.Kind{api.KRef}, Results: []api.Kind{api.KInt}, Code: []api.Ins{{Op: api.OpJump}}},
		},
	}
}

// row is an instruction's error: of the fields A, B and C, of Imm and of the list.
type row struct {
	e       api.Errno
	a, b, c int
	imm     uint64
	list    []int
}

// rows fails the test if Check answers something else of an instruction.
func rows(t *testing.T, op int, list ...row) {
	t.Helper()
	for _, r := range list {
		ins := api.Ins{Op: op, A: r.a, B: r.b, C: r.c, Imm: r.imm, List: r.list}
		want := api.Fault{E: r.e, Func: tested, At: place}
		if r.e == api.OK {
			want = api.Fault{}
		}
		if got := verify.Check(world(ins)); got != want {
			t.Errorf("Check of %v: %v, want %v", ins, got, want)
		}
	}
}

func TestExample(t *testing.T) {
	slots := []api.Kind{api.KInt}
	checks(t, api.Program{}, api.Fault{E: api.ErrCount, Func: -1})
	checks(t, alone(slots, returns), api.Fault{})
	checks(t, alone(slots, api.Ins{Op: api.OpConst, A: 1}, returns), api.Fault{E: api.ErrSlot})
	checks(t, alone(slots, api.Ins{Op: api.OpMove, C: 1}, returns), api.Fault{E: api.ErrForm})
	checks(t, alone(slots, api.Ins{Op: api.OpJump, A: 5}), api.Fault{E: api.ErrJump})
	checks(t, alone(slots), api.Fault{E: api.ErrEnd})
}

func TestIsRef(t *testing.T) {
	for _, k := range []api.Kind{api.Ptr, api.Ptr + 1, api.Ptr + 31, api.Ptr + 32, 63, api.Chan, api.Chan + 1, api.Chan + api.KRef, api.Chan + api.Ptr, 2 * api.Chan, 65536, greatest} {
		if !verify.IsRef(k) {
			t.Errorf("IsRef(%d) is false", k)
		}
	}
	for _, k := range []api.Kind{least, -api.Chan, -api.Ptr, -1, api.KInt, api.KFloat, api.KRef, 3, 14, 15} {
		if verify.IsRef(k) {
			t.Errorf("IsRef(%d) is true", k)
		}
	}
}

// edges are kinds of each sort, and those next to them, where there are so many types; and which of them there are.
func edges(types int) map[api.Kind]bool {
	list := map[api.Kind]bool{
		least: false, least + 16: false, least + 64: false, least + 80: false, -80: false, -64: false, -16: false, -1: false,
		0: true, 1: true, 3: false, 4: false, 14: false, 15: false, 48: false, 49: false, 62: false, 63: false,
		64: true, 65: true, 67: false, 78: false, 79: false, 112: false, 127: false, 128: false, 129: false, 144: false, 192: false,
		65535: false, 1 << 32: false, 1<<32 + 16: false, greatest - 64: false, greatest - 1: false, greatest: false,
	}
	for t := range api.MaxTypes {
		list[api.Ptr+api.Kind(t)] = t < types
		list[api.Chan+api.Ptr+api.Kind(t)] = t < types
	}
	return list
}

// someTypes are so many types of one float.
func someTypes(n int) []api.Type {
	return slices.Repeat([]api.Type{{Fields: []api.Kind{api.KFloat}}}, n)
}

// Each kind that there is and those next to them, in slots, globals, fields and results; a reference in slots alone.
func TestKinds(t *testing.T) {
	for _, types := range []int{1, 2, 3, api.MaxTypes - 1, api.MaxTypes} {
		all := edges(types)
		all[api.KRef], all[api.Chan+api.KRef] = false, false
		for k, is := range all {
			fault := func(e api.Errno, i, at int) api.Fault {
				if is {
					return api.Fault{}
				}
				return api.Fault{E: e, Func: i, At: at}
			}
			p := alone(nil, returns)
			p.Types = someTypes(types)
			p.Globals = []api.Kind{api.KInt, k}
			checks(t, p, fault(api.ErrGlobal, -1, 1))
			p.Globals = nil
			for _, array := range []bool{true, false} {
				p.Types[types-1] = api.Type{Array: array, Fields: []api.Kind{k}}
				checks(t, p, fault(api.ErrKind, -1, types-1))
			}
			p.Types[types-1] = api.Type{Fields: []api.Kind{api.KInt, k, api.KFloat}}
			checks(t, p, fault(api.ErrKind, -1, types-1))
			p.Types = someTypes(types)
			p.Funcs = append(p.Funcs, api.Func{Results: []api.Kind{api.KInt, k}, Code: []api.Ins{{Op: api.OpJump}}})
			checks(t, p, fault(api.ErrKind, 1, 0))
			p.Funcs[1].Results = nil
			is = is || k == api.KRef
			p.Funcs[1].Slots = []api.Kind{api.KInt, k}
			checks(t, p, fault(api.ErrKind, 1, 0))
			p.Funcs[1].Params = 2
			checks(t, p, fault(api.ErrKind, 1, 0))
		}
	}
	// Where there are no types there are no pointers.
	for k, is := range edges(0) {
		want := api.Fault{}
		if !is {
			want.E = api.ErrKind
		}
		checks(t, alone([]api.Kind{k}, returns), want)
	}
}

// Of a type its own number, and that of a later one, may be pointed to.
func TestTypesThatPointToEachOther(t *testing.T) {
	p := alone(nil, returns)
	p.Types = []api.Type{
		{Fields: []api.Kind{api.Ptr, api.Ptr + 1, api.Chan + api.Ptr + 1}},
		{Array: true, Fields: []api.Kind{api.Ptr + 1}},
	}
	checks(t, p, api.Fault{})
}

func TestCounts(t *testing.T) {
	none := api.Fault{E: api.ErrCount, Func: -1}
	head := api.Fault{E: api.ErrCount}
	for _, x := range []struct {
		limit int
		fault api.Fault
		make  func(p *api.Program, n int)
	}{
		{api.MaxTypes, none, func(p *api.Program, n int) { p.Types = someTypes(n) }},
		{api.MaxGlobal, none, func(p *api.Program, n int) { p.Globals = make([]api.Kind, n) }},
		{api.MaxFuncs, none, func(p *api.Program, n int) { p.Funcs = slices.Repeat(p.Funcs[:1], n) }},
		{api.MaxFields, api.Fault{E: api.ErrCount, Func: -1, At: 1}, func(p *api.Program, n int) {
			p.Types = someTypes(3)
			p.Types[1].Fields = make([]api.Kind, n)
		}},
		{1, api.Fault{E: api.ErrCount, Func: -1, At: 1}, func(p *api.Program, n int) {
			p.Types = someTypes(2)
			p.Types[1] = api.Type{Array: true, Fields: make([]api.Kind, n)}
		}},
		{api.MaxSlots, head, func(p *api.Program, n int) { p.Funcs[0].Slots = make([]api.Kind, n) }},
		{api.MaxSlots, api.Fault{E: api.ErrCount, Func: 1}, func(p *api.Program, n int) {
			p.Funcs = append(p.Funcs, api.Func{Results: make([]api.Kind, n), Code: []api.Ins{{Op: api.OpJump}}})
		}},
		{api.MaxCode, head, func(p *api.Program, n int) { p.Funcs[0].Code = slices.Repeat(p.Funcs[0].Code[:1], n) }},
		{5, api.Fault{E: api.ErrCount, Func: 1}, func(p *api.Program, n int) {
			p.Funcs = append(p.Funcs, api.Func{Params: n, Slots: make([]api.Kind, 5), Code: []api.Ins{returns}})
		}},
	} {
		for _, n := range []int{1, x.limit - 1, x.limit, x.limit + 1, x.limit + 2, 1000} {
			p, want := alone(nil, returns), api.Fault{}
			if n > x.limit {
				want = x.fault
			}
			if n == 0 {
				continue
			}
			x.make(&p, n)
			checks(t, p, want)
		}
	}
}

func TestNoFields(t *testing.T) {
	for _, array := range []bool{true, false} {
		for _, fields := range [][]api.Kind{nil, {}} {
			p := alone(nil, returns)
			p.Types = append(someTypes(2), api.Type{Array: array, Fields: fields})
			checks(t, p, api.Fault{E: api.ErrCount, Func: -1, At: 2})
		}
	}
}

func TestParams(t *testing.T) {
	for n, e := range map[int]api.Errno{
		least: api.ErrCount, -1: api.ErrCount, 0: api.OK, 1: api.OK, 2: api.OK, 3: api.ErrCount, 32: api.ErrCount, greatest: api.ErrCount,
	} {
		p := alone(nil, returns)
		p.Funcs = append(p.Funcs, api.Func{Params: n, Slots: make([]api.Kind, 2), Code: []api.Ins{returns}})
		want := api.Fault{E: e, Func: 1}
		if e == api.OK {
			want = api.Fault{}
		}
		checks(t, p, want)
		p.Funcs = p.Funcs[1:]
		want.Func = 0
		if n == 1 || n == 2 {
			want.E = api.ErrFunc
		}
		checks(t, p, want)
	}
}

func TestFirstFunction(t *testing.T) {
	p := alone([]api.Kind{api.KInt}, api.Ins{Op: api.OpJump})
	checks(t, p, api.Fault{})
	p.Funcs[0].Results = []api.Kind{api.KInt}
	checks(t, p, api.Fault{E: api.ErrFunc})
	p.Funcs[0].Params = 1
	checks(t, p, api.Fault{E: api.ErrFunc})
	p.Funcs[0].Results = nil
	checks(t, p, api.Fault{E: api.ErrFunc})
}

// Each instruction as a function's last one, ones that there aren't, too.
func TestEnd(t *testing.T) {
	checks(t, alone(nil), api.Fault{E: api.ErrEnd})
	checks(t, alone(nil, []api.Ins{}...), api.Fault{E: api.ErrEnd})
	for op := -2; op < api.MaxOp+3; op++ {
		want := api.Fault{E: api.ErrEnd}
		switch op {
		case api.OpRet, api.OpJump, api.OpExit, api.OpPanic:
			want = api.Fault{}
		}
		checks(t, alone([]api.Kind{api.KInt}, returns, api.Ins{Op: op}), want)
	}
	for _, op := range []int{least, greatest} {
		checks(t, alone(nil, api.Ins{Op: op}), api.Fault{E: api.ErrEnd})
	}
}

func TestNoSuchInstruction(t *testing.T) {
	for _, op := range []int{least, least + 1, -api.MaxOp, -1, 0, api.MaxOp + 1, api.MaxOp + 2, 255, 256 + api.OpYield, 65536 + api.OpYield, 1<<32 + api.OpYield, greatest} {
		rows(t, op, row{e: api.ErrOp}, row{e: api.ErrOp, a: 1, imm: 5, list: make([]int, api.MaxList+1)})
	}
}

// used are the fields of each instruction, as package api's remarks have them: A, B, C, I for Imm, L for the list.
func used() []string {
	return []string{
		api.OpConst: "AI", api.OpMove: "AB", api.OpAdd: "ABC", api.OpSub: "ABC", api.OpMul: "ABC", api.OpDiv: "ABC", api.OpMod: "ABC",
		api.OpAnd: "ABC", api.OpOr: "ABC", api.OpXor: "ABC", api.OpShl: "ABC", api.OpShr: "ABC", api.OpEq: "ABC", api.OpLess: "ABC",
		api.OpFAdd: "ABC", api.OpFSub: "ABC", api.OpFMul: "ABC", api.OpFDiv: "ABC", api.OpFEq: "ABC", api.OpFLess: "ABC",
		api.OpItoF: "AB", api.OpFtoI: "AB", api.OpPEq: "ABC", api.OpJump: "A", api.OpJumpZ: "AB", api.OpNew: "AB", api.OpNewArr: "ABC",
		api.OpLen: "AB", api.OpLoad: "ABC", api.OpStore: "ABC", api.OpLoadX: "ABC", api.OpStoreX: "ABC", api.OpGet: "AB", api.OpSet: "AB",
		api.OpCall: "AL", api.OpRet: "L", api.OpGo: "AL", api.OpDefer: "AL", api.OpPanic: "A", api.OpRecover: "AB", api.OpChan: "AI",
		api.OpSend: "AB", api.OpRecv: "ABC", api.OpClose: "A", api.OpSelect: "ABL", api.OpSleep: "A", api.OpYield: "", api.OpPrint: "A",
		api.OpAddr: "AB", api.OpGetRef: "AB", api.OpSetRef: "AB", api.OpExit: "A",
	}
}

// An instruction with one field that isn't zero: ErrForm, if it doesn't use it, whatever else is wrong; else another error, or none.
func TestFieldsThatAreNotUsed(t *testing.T) {
	if len(used()) != api.MaxOp+1 {
		t.Fatalf("%d instructions", len(used())-1)
	}
	for op := 1; op <= api.MaxOp; op++ {
		list := map[rune][]api.Ins{'L': {{List: []int{0}}, {List: []int{-1}}, {List: make([]int, api.MaxList+1)}}}
		for _, n := range []int{least, -1, 1, 1 << 32, greatest} {
			list['A'] = append(list['A'], api.Ins{A: n})
			list['B'] = append(list['B'], api.Ins{B: n})
			list['C'] = append(list['C'], api.Ins{C: n})
			list['I'] = append(list['I'], api.Ins{Imm: uint64(n)})
		}
		for field, all := range list {
			for _, ins := range all {
				ins.Op = op
				is := slices.Contains([]rune(used()[op]), field)
				got := verify.Check(world(ins))
				if !is && got != (api.Fault{E: api.ErrForm, Func: tested, At: place}) {
					t.Errorf("Check of %v: %v, want ErrForm", ins, got)
				}
				if is && got.E == api.ErrForm && op != api.OpSelect {
					t.Errorf("Check of %v: %v, though the field is used", ins, got)
				}
			}
		}
	}
}

// Too many numbers in a list are told ahead of what else is wrong with it.
func TestTooLongLists(t *testing.T) {
	for op := 1; op <= api.MaxOp; op++ {
		if !slices.Contains([]rune(used()[op]), 'L') {
			continue
		}
		for _, n := range []int{api.MaxList + 1, api.MaxList + 3, 1000} {
			ins := api.Ins{Op: op, List: slices.Repeat([]int{-1}, n)}
			rows(t, op, row{e: api.ErrCount, list: ins.List})
			if op != api.OpRet {
				rows(t, op, row{e: api.ErrCount, a: 99, list: ins.List})
			}
		}
	}
}

// Lists of MaxList numbers work.
func TestListsOfMaxList(t *testing.T) {
	n := api.MaxList
	list := make([]int, n)
	p := world(api.Ins{Op: api.OpCall, A: 7, List: list})
	p.Funcs = append(p.Funcs, api.Func{Params: n, Slots: make([]api.Kind, n), Code: []api.Ins{returns}})
	checks(t, p, api.Fault{})
	for _, op := range []int{api.OpGo, api.OpDefer} {
		p.Funcs[tested].Code[place].Op = op
		checks(t, p, api.Fault{})
	}
	p.Funcs[tested].Code[place] = api.Ins{Op: api.OpRet, List: list}
	p.Funcs[tested].Results = make([]api.Kind, n)
	checks(t, p, api.Fault{})
	rows(t, api.OpSelect, row{a: 0, list: slices.Repeat([]int{0, 9, 0, 1, 10, 2}, n/6)})
	// No list is long enough for as many parameters, and for as many results.
	p.Funcs[7].Params, p.Funcs[7].Slots = n+1, make([]api.Kind, n+1)
	p.Funcs[tested].Results = make([]api.Kind, n+1)
	at := api.Fault{E: api.ErrCount, Func: tested, At: place}
	checks(t, p, at)
	for _, op := range []int{api.OpCall, api.OpGo, api.OpDefer} {
		p.Funcs[tested].Code[place] = api.Ins{Op: op, A: 7, List: list}
		checks(t, p, at)
		p.Funcs[tested].Code[place].List = make([]int, n+1)
		checks(t, p, at)
	}
}

// change is something that makes a right program wrong.
type change struct {
	fault api.Fault
	make  func(p *api.Program)
}

// changes are those that may be made together, in the order in which they are told.
func changes() []change {
	at := func(e api.Errno, i, at int) api.Fault { return api.Fault{E: e, Func: i, At: at} }
	return []change{
		{at(api.ErrCount, -1, 0), func(p *api.Program) { p.Types = append(p.Types, someTypes(api.MaxTypes)...) }},
		{at(api.ErrCount, -1, 0), func(p *api.Program) { p.Globals = append(p.Globals, make([]api.Kind, api.MaxGlobal)...) }},
		{at(api.ErrCount, -1, 0), func(p *api.Program) { p.Funcs = append(p.Funcs, make([]api.Func, api.MaxFuncs)...) }},
		{at(api.ErrCount, -1, 1), func(p *api.Program) { p.Types[1].Fields = []api.Kind{3, 3} }},
		{at(api.ErrKind, -1, 2), func(p *api.Program) { p.Types[2].Fields[0] = api.KRef }},
		{at(api.ErrCount, -1, 3), func(p *api.Program) { p.Types[3].Fields = nil }},
		{at(api.ErrGlobal, -1, 1), func(p *api.Program) { p.Globals[1] = api.KRef }},
		{at(api.ErrGlobal, -1, 3), func(p *api.Program) { p.Globals[3] = -1 }},
		{at(api.ErrCount, 0, 0), func(p *api.Program) { p.Funcs[0].Params = -1 }},
		{at(api.ErrFunc, 0, 0), func(p *api.Program) { p.Funcs[0].Results = []api.Kind{api.KInt} }},
		{at(api.ErrKind, 0, 0), func(p *api.Program) { p.Funcs[0].Slots = []api.Kind{5} }},
		{at(api.ErrEnd, 0, 0), func(p *api.Program) { p.Funcs[0].Code = append(p.Funcs[0].Code, api.Ins{}) }},
		{at(api.ErrCount, 2, 0), func(p *api.Program) { p.Funcs[2].Params = 4 }},
		{at(api.ErrKind, 2, 0), func(p *api.Program) { p.Funcs[2].Slots[0] = 63 }},
		{at(api.ErrKind, 2, 0), func(p *api.Program) { p.Funcs[2].Results[0] = api.KRef }},
		{at(api.ErrEnd, 2, 0), func(p *api.Program) { p.Funcs[2].Code = append(p.Funcs[2].Code, api.Ins{Op: api.OpYield, A: 1}) }},
		{at(api.ErrEnd, 4, 0), func(p *api.Program) { p.Funcs[4].Code = nil }},
		{at(api.ErrForm, 0, 0), func(p *api.Program) { p.Funcs[0].Code[0].A = 1 }},
		{at(api.ErrForm, 1, 0), func(p *api.Program) { p.Funcs[1].Code[0].Imm = 1 }},
		{at(api.ErrOp, 1, 1), func(p *api.Program) { p.Funcs[1].Code[1] = api.Ins{} }},
		{at(api.ErrJump, 1, 2), func(p *api.Program) { p.Funcs[1].Code[2].A = 3 }},
		{at(api.ErrJump, 5, 0), func(p *api.Program) { p.Funcs[5].Code[0].A = -1 }},
	}
}

// Of several faults the one that is named first: the types ahead of the globals, each function's head ahead of every instruction.
func TestFirstFault(t *testing.T) {
	checks(t, world(api.Ins{Op: api.OpYield}), api.Fault{})
	for i, first := range changes() {
		for k, second := range changes()[i:] {
			p := world(api.Ins{Op: api.OpYield})
			second.make(&p)
			if k > 0 {
				first.make(&p)
			}
			checks(t, p, first.fault)
		}
	}
}

// Of one function, and of one type, the errors in their order.
func TestFirstErrorOfAHead(t *testing.T) {
	p := alone([]api.Kind{3}, api.Ins{})
	p.Funcs[0].Results = make([]api.Kind, api.MaxSlots+1)
	checks(t, p, api.Fault{E: api.ErrCount})
	p.Funcs[0].Results = []api.Kind{api.KRef}
	checks(t, p, api.Fault{E: api.ErrFunc})
	p.Funcs[0].Results = nil
	checks(t, p, api.Fault{E: api.ErrKind})
	p.Funcs[0].Slots = nil
	checks(t, p, api.Fault{E: api.ErrEnd})
	p.Types = []api.Type{{Array: true, Fields: []api.Kind{3, 3}}, {}}
	checks(t, p, api.Fault{E: api.ErrCount, Func: -1})
	p.Types[0].Array = false
	checks(t, p, api.Fault{E: api.ErrKind, Func: -1})
}

// copied is a list in new memory, with a mark behind its length.
func copied[T any](list []T, mark T) []T {
	return append(append(make([]T, 0, len(list)+1), list...), mark)[:len(list)]
}

// marked is a program in new memory, with a mark behind each list's length.
func marked(p api.Program) api.Program {
	p.Types, p.Globals = copied(p.Types, api.Type{Array: true}), copied(p.Globals, -7)
	p.Funcs = copied(p.Funcs, api.Func{Params: -7})
	for i := range p.Types {
		p.Types[i].Fields = copied(p.Types[i].Fields, -7)
	}
	for i := range p.Funcs {
		f := &p.Funcs[i]
		f.Slots, f.Results = copied(f.Slots, -7), copied(f.Results, -7)
		f.Code = copied(f.Code, api.Ins{Op: -7})
		for k := range f.Code {
			f.Code[k].List = copied(f.Code[k].List, -7)
		}
	}
	return p
}

// whole is a program with each list as long as its memory.
func whole(p api.Program) api.Program {
	p = marked(p)
	p.Types, p.Globals, p.Funcs = p.Types[:cap(p.Types)], p.Globals[:cap(p.Globals)], p.Funcs[:cap(p.Funcs)]
	for i := range p.Types {
		p.Types[i].Fields = p.Types[i].Fields[:cap(p.Types[i].Fields)]
	}
	for i := range p.Funcs {
		f := &p.Funcs[i]
		f.Slots, f.Results, f.Code = f.Slots[:cap(f.Slots)], f.Results[:cap(f.Results)], f.Code[:cap(f.Code)]
		for k := range f.Code {
			f.Code[k].List = f.Code[k].List[:cap(f.Code[k].List)]
		}
	}
	return p
}

// behind tells what lies behind a program's lists.
func behind(p api.Program) []any {
	list := []any{p.Types[:cap(p.Types)], p.Globals[:cap(p.Globals)], p.Funcs[:cap(p.Funcs)]}
	for _, t := range p.Types {
		list = append(list, t.Fields[:cap(t.Fields)])
	}
	for _, f := range p.Funcs {
		list = append(list, f.Slots[:cap(f.Slots)], f.Results[:cap(f.Results)], f.Code[:cap(f.Code)])
		for _, s := range f.Code {
			list = append(list, s.List[:cap(s.List)])
		}
	}
	return list
}

// What is handed in is the same behind a call, also behind a list's length, and what lies there is not looked at.
func TestHandedIn(t *testing.T) {
	for op := 1; op <= api.MaxOp; op++ {
		for _, list := range [][]int{nil, {}, {0}, {0, 2}, {0, 5}, {0, 2, 1}, {0, 9, 0, 1, 10, 2}} {
			for a := range 10 {
				ins := api.Ins{Op: op, A: a, List: list}
				p, same := marked(world(ins)), marked(world(ins))
				checks(t, p, verify.Check(world(ins)))
				if !reflect.DeepEqual(p, same) || !reflect.DeepEqual(behind(p), behind(same)) {
					t.Errorf("Check of %v has changed its program", ins)
				}
			}
		}
	}
	// The marks are faults where they are looked at.
	if got := verify.Check(whole(world(api.Ins{Op: api.OpYield}))); got != (api.Fault{E: api.ErrKind, Func: -1}) {
		t.Errorf("the test's marks: %v", got)
	}
}

func TestNilAndEmpty(t *testing.T) {
	p := api.Program{
		Types: []api.Type{}, Globals: []api.Kind{},
		Funcs: []api.Func{{Slots: []api.Kind{}, Results: []api.Kind{}, Code: []api.Ins{{Op: api.OpYield, List: []int{}}, {Op: api.OpRet, List: []int{}}}}},
	}
	checks(t, p, api.Fault{})
	checks(t, alone(nil, api.Ins{Op: api.OpYield}, returns), api.Fault{})
	checks(t, api.Program{Funcs: []api.Func{}}, api.Fault{E: api.ErrCount, Func: -1})
}
