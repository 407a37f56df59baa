// Package draft writes programs in few words, and whole ones as they are chosen: for the tests of the layers that run programs.
package draft

import (
	"math"
	"slices"

	"treadle/api"
)

// The kinds of numbers and references, and the ends of ints.
const (
	Num = api.KInt
	Flt = api.KFloat
	Ref = api.KRef

	Least    = math.MinInt
	Greatest = math.MaxInt
)

// The types of the programs.
const (
	Box   = iota // an int
	Node         // an int, a float, a pointer to a node, one to a box, and a channel of int
	Nums         // an array of ints
	Nodes        // an array of pointers to nodes
	Flts         // an array of floats
	Lines        // an array of channels of int
	Ring         // a channel of pointers to rings
	Link         // a pointer to a box, an int, and a float
)

// The globals of the programs.
const (
	GNum = iota
	GFlt
	GNode
	GNodes
	GLine
	GNodeLine
)

// Ptr is the kind of pointers to a type, Line that of channels.
func Ptr(t int) api.Kind        { return api.Ptr + api.Kind(t) }
func Line(of api.Kind) api.Kind { return api.Chan + of }

// Kinds is a list of kinds.
func Kinds(k ...api.Kind) []api.Kind { return k }

// Program is a program of functions, with the types and globals of all of them.
func Program(funcs ...api.Func) api.Program {
	return api.Program{
		Types: []api.Type{
			Box:   {Fields: Kinds(Num)},
			Node:  {Fields: Kinds(Num, Flt, Ptr(Node), Ptr(Box), Line(Num))},
			Nums:  {Array: true, Fields: Kinds(Num)},
			Nodes: {Array: true, Fields: Kinds(Ptr(Node))},
			Flts:  {Array: true, Fields: Kinds(Flt)},
			Lines: {Array: true, Fields: Kinds(Line(Num))},
			Ring:  {Fields: Kinds(Line(Ptr(Ring)))},
			Link:  {Fields: Kinds(Ptr(Box), Num, Flt)},
		},
		Globals: []api.Kind{GNum: Num, GFlt: Flt, GNode: Ptr(Node), GNodes: Ptr(Nodes), GLine: Line(Num), GNodeLine: Line(Ptr(Node))},
		Funcs:   funcs,
	}
}

// Fun is a function without results, with so many parameters.
func Fun(params int, slots []api.Kind, body ...api.Ins) api.Func {
	return api.Func{Params: params, Slots: slots, Code: body}
}

// Gives is a function with results.
func Gives(params int, slots, results []api.Kind, body ...api.Ins) api.Func {
	return api.Func{Params: params, Slots: slots, Results: results, Code: body}
}

// Do is an instruction with the numbers A, B, C, as many as are given.
func Do(op int, abc ...int) api.Ins {
	all := append(slices.Clone(abc), 0, 0, 0)
	return api.Ins{Op: op, A: all[0], B: all[1], C: all[2]}
}

// Const is a const of an int.
func Const(a, n int) api.Ins { return api.Ins{Op: api.OpConst, A: a, Imm: uint64(n)} }

// Bits is a const of a float.
func Bits(a int, w uint64) api.Ins { return api.Ins{Op: api.OpConst, A: a, Imm: w} }

// MakeLine is a chan.
func MakeLine(a, places int) api.Ins { return api.Ins{Op: api.OpChan, A: a, Imm: uint64(places)} }

// With is a call, a go or a defer of the function f.
func With(op, f int, slots ...int) api.Ins { return api.Ins{Op: op, A: f, List: slots} }

// Ret is a ret of slots.
func Ret(slots ...int) api.Ins { return api.Ins{Op: api.OpRet, List: slots} }

// Select is a select without a default, SelectOr one with it.
func Select(a int, threes ...int) api.Ins { return api.Ins{Op: api.OpSelect, A: a, List: threes} }
func SelectOr(a int, threes ...int) api.Ins {
	return api.Ins{Op: api.OpSelect, A: a, B: 1, List: threes}
}

// Show is a print, Stop an exit.
func Show(a int) api.Ins { return Do(api.OpPrint, a) }
func Stop(a int) api.Ins { return Do(api.OpExit, a) }

// Body is instructions and lists of such, one behind the other.
func Body(parts ...[]api.Ins) []api.Ins { return slices.Concat(parts...) }

// The is a list of instructions.
func The(list ...api.Ins) []api.Ins { return list }

// Times is an instruction so many times.
func Times(n int, ins ...api.Ins) []api.Ins { return slices.Repeat(ins, n) }

// Floats are the bits of floats at their edges, and of some between, with both signs; and of NaNs of all kinds.
func Floats() []uint64 {
	var list []uint64
	for _, x := range []float64{
		0, math.SmallestNonzeroFloat64, 0x1p-1073, 0x0.fffffffffffffp-1022, 0x1p-1022, 0x1.0000000000001p-1022, 0x1p-537, 0x1p-53, 0.1, 0.5, 1, 1.5, 2, 2.5, 2.9, 3, 0x1p52, 0x1p53 - 1, 0x1p53, 0x1p53 + 2, 0x1p62, 0x1.fffffffffffffp62, 0x1p63, 0x1.0000000000001p63, 0x1p64, 1e100, 0x1p511, 0x1p512, 0x1p1023, math.MaxFloat64, math.Inf(1),
	} {
		list = append(list, math.Float64bits(x), math.Float64bits(x)|1<<63)
	}
	return append(list, NaNs()...)
}

// NaNs are the bits of NaNs of both signs, quiet and signalling.
func NaNs() []uint64 {
	return []uint64{0x7ff8000000000001, 0xfff8000000000001, 0x7ff8000000000000, 0xfff8000000000000, 0x7ff0000000000001, 0xfff0000000000001, 0x7ff4000000000000, 0xfff7ffffffffffff, math.MaxUint64, 0x7fffffffffffffff}
}
