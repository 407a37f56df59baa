package code_test

import (
	"bytes"
	"encoding/binary"
	"math"
	"math/rand"
	"reflect"
	"slices"
	"testing"

	"treadle/api"
	"treadle/code"
)

// encodes fails the test if Encode answers other bytes.
func encodes(t testing.TB, p api.Program, want []byte) {
	t.Helper()
	if got, e := code.Encode(p); !bytes.Equal(got, want) || e != api.OK {
		t.Errorf("Encode(%v): %v, %d, want %v", p, got, e, want)
	}
}

// refuses fails the test if Encode answers another error, or bytes.
func refuses(t testing.TB, p api.Program, e api.Errno) {
	t.Helper()
	if got, f := code.Encode(p); len(got) != 0 || f != e {
		t.Errorf("Encode: %d bytes, %d, want %d", len(got), f, e)
	}
}

// decodes fails the test if Decode answers another program.
func decodes(t testing.TB, b []byte, want api.Program) {
	t.Helper()
	got, fault := code.Decode(b)
	if fault != (api.Fault{}) || !reflect.DeepEqual(bare(got), bare(want)) {
		t.Errorf("Decode(%v): %v, %v, want %v", b, got, fault, want)
	}
}

// faults fails the test if Decode answers another fault, or a program.
func faults(t testing.TB, b []byte, e api.Errno, at int) {
	t.Helper()
	p, fault := code.Decode(b)
	if want := (api.Fault{E: e, Func: -1, At: at}); fault != want || !reflect.DeepEqual(bare(p), api.Program{}) {
		t.Errorf("Decode(%v): %v, %v, want %v", b[:min(len(b), 64)], p, fault, want)
	}
}

// thereAndBack fails the test if a program isn't the same behind Encode and Decode, or its bytes other ones.
func thereAndBack(t testing.TB, p api.Program, want []byte) {
	t.Helper()
	encodes(t, p, want)
	decodes(t, want, p)
}

// copied is a list in new memory; an empty one is nil.
func copied[T any](list []T) []T {
	return append([]T(nil), list...)
}

// bare is a program in new memory, whose empty lists are nil.
func bare(p api.Program) api.Program {
	p.Types, p.Globals, p.Funcs = copied(p.Types), copied(p.Globals), copied(p.Funcs)
	for i := range p.Types {
		p.Types[i].Fields = copied(p.Types[i].Fields)
	}
	for i := range p.Funcs {
		f := &p.Funcs[i]
		f.Slots, f.Results, f.Code = copied(f.Slots), copied(f.Results), copied(f.Code)
		for k := range f.Code {
			f.Code[k].List = copied(f.Code[k].List)
		}
	}
	return p
}

// instructions is a program of one function of these instructions.
func instructions(list ...api.Ins) api.Program {
	return api.Program{Funcs: []api.Func{{Code: list}}}
}

// sample is a program with more than one of everything, which may not run.
func sample() api.Program {
	return api.Program{
		Types:   []api.Type{{Array: true, Fields: []api.Kind{1}}, {}, {Fields: []api.Kind{0, 16, 300, 2}}},
		Globals: []api.Kind{64, 65535, 1},
		Funcs: []api.Func{
			{Code: []api.Ins{{Op: api.OpYield}, {Op: 60000, A: 127, B: 128, C: 65535, Imm: math.MaxUint64, List: []int{7, 700}}}},
			{},
			{Params: 9, Slots: []api.Kind{0, 1}, Results: []api.Kind{17, 129}, Code: []api.Ins{{List: []int{200}}}},
		},
	}
}

func TestExample(t *testing.T) {
	thereAndBack(t, api.Program{Funcs: []api.Func{{}}}, []byte{0, 0, 1, 0, 0, 0, 0})
	thereAndBack(t, instructions(api.Ins{Op: 1, Imm: 300}),
		[]byte{0, 0, 1, 0, 0, 0, 1, 1, 0, 0, 0, 172, 2, 0})
	faults(t, []byte{128, 0}, api.ErrForm, 0)
	faults(t, nil, api.ErrEnd, 0)
	faults(t, []byte{33}, api.ErrCount, 0)
	faults(t, []byte{0, 0, 0, 5}, api.ErrEnd, 3)
}

// The order of what is written, worked out by hand.
func TestOrder(t *testing.T) {
	thereAndBack(t, sample(), []byte{
		3, 1, 1, 1, 0, 0, 0, 4, 0, 16, 172, 2, 2,
		3, 64, 255, 255, 3, 1,
		3,
		0, 0, 0, 2,
		47, 0, 0, 0, 0, 0,
		224, 212, 3, 127, 128, 1, 255, 255, 3, 255, 255, 255, 255, 255, 255, 255, 255, 255, 1, 2, 7, 188, 5,
		0, 0, 0, 0,
		9, 2, 0, 1, 2, 17, 129, 1, 1, 0, 0, 0, 0, 0, 1, 200, 1,
	})
}

// The numbers' edges: of each count of bytes the least and the greatest one.
func TestNumbers(t *testing.T) {
	list := []struct {
		n    uint64
		text []byte
	}{
		{0, []byte{0}}, {1, []byte{1}}, {127, []byte{127}},
		{128, []byte{128, 1}}, {129, []byte{129, 1}}, {255, []byte{255, 1}}, {256, []byte{128, 2}}, {300, []byte{172, 2}}, {16383, []byte{255, 127}},
		{16384, []byte{128, 128, 1}}, {65535, []byte{255, 255, 3}}, {65536, []byte{128, 128, 4}}, {1<<21 - 1, []byte{255, 255, 127}},
		{1 << 21, []byte{128, 128, 128, 1}},
		{1 << 62, []byte{128, 128, 128, 128, 128, 128, 128, 128, 64}},
		{1<<63 - 1, []byte{255, 255, 255, 255, 255, 255, 255, 255, 127}},
		{1 << 63, []byte{128, 128, 128, 128, 128, 128, 128, 128, 128, 1}},
		{math.MaxUint64, []byte{255, 255, 255, 255, 255, 255, 255, 255, 255, 1}},
	}
	for _, x := range list {
		thereAndBack(t, instructions(api.Ins{Imm: x.n}), slices.Concat([]byte{0, 0, 1, 0, 0, 0, 1, 0, 0, 0, 0}, x.text, []byte{0}))
		if x.n <= 65535 {
			thereAndBack(t, instructions(api.Ins{B: int(x.n)}), slices.Concat([]byte{0, 0, 1, 0, 0, 0, 1, 0, 0}, x.text, []byte{0, 0, 0}))
			thereAndBack(t, api.Program{Globals: []api.Kind{api.Kind(x.n)}}, slices.Concat([]byte{0, 1}, x.text, []byte{0}))
		}
	}
}

func TestNumbersOfEachLength(t *testing.T) {
	for bits := range 64 {
		for _, n := range []uint64{1<<bits - 1, 1 << bits, 1<<bits + 1, -(1 << bits)} {
			p := instructions(api.Ins{Imm: n})
			thereAndBack(t, p, text(flat(p)))
		}
	}
}

// Imms that are ints below 0, and the least and the greatest int.
func TestImm(t *testing.T) {
	for _, n := range []int64{math.MinInt64, math.MinInt64 + 1, -65536, -300, -2, -1, math.MaxInt64} {
		p := instructions(api.Ins{Op: api.OpConst, Imm: uint64(n)})
		thereAndBack(t, p, text(flat(p)))
	}
}

// Each number of a program at fault, in each way, with its place.
func TestEachNumberOfAText(t *testing.T) {
	list := flat(sample())
	for i, f := range list {
		ahead, behind := text(list[:i]), text(list[i+1:])
		at := len(ahead)
		with := func(b ...byte) []byte { return slices.Concat(ahead, b, behind) }
		own := binary.AppendUvarint(nil, f.n)
		faults(t, slices.Concat(ahead, own[:len(own)-1]), api.ErrEnd, at)
		faults(t, slices.Concat(ahead, []byte{129}), api.ErrEnd, at)
		faults(t, slices.Concat(ahead, bytes.Repeat([]byte{255}, 9)), api.ErrEnd, at)
		faults(t, with(128, 0), api.ErrForm, at)
		faults(t, with(255, 128, 0), api.ErrForm, at)
		faults(t, with(append(bytes.Repeat([]byte{128}, 9), 0)...), api.ErrForm, at)
		for _, tenth := range []byte{2, 3, 127, 128, 129, 255} {
			long := append(bytes.Repeat([]byte{255}, 9), tenth)
			faults(t, with(long...), api.ErrForm, at)
			faults(t, slices.Concat(ahead, long), api.ErrForm, at)
		}
		if f.limit == math.MaxUint64 {
			continue
		}
		for _, n := range []uint64{f.limit + 1, f.limit + 2, 65536, 1 << 20, 1 << 31, 1 << 32, 1<<32 + 1, 1 << 63, math.MaxUint64} {
			faults(t, with(binary.AppendUvarint(nil, n)...), f.above, at)
		}
	}
}

// A text that ends ahead of its end, at each of its bytes; and one with bytes left over.
func TestEnds(t *testing.T) {
	list := flat(sample())
	whole := text(list)
	for n := range whole {
		at := 0
		for _, f := range list {
			size := len(binary.AppendUvarint(nil, f.n))
			if at+size > n {
				break
			}
			at += size
		}
		faults(t, whole[:n], api.ErrEnd, at)
	}
	for _, over := range [][]byte{{0}, {5}, {128}, {128, 0}, {255, 255, 255, 255, 255, 255, 255, 255, 255, 255}} {
		faults(t, slices.Concat(whole, over), api.ErrEnd, len(whole))
	}
}

// lists is a program of lists of such lengths.
type lists struct{ types, fields, globals, funcs, slots, results, code, list int }

func (l lists) program() api.Program {
	p := api.Program{Types: make([]api.Type, l.types), Globals: make([]api.Kind, l.globals), Funcs: make([]api.Func, l.funcs)}
	if l.types > 0 {
		p.Types[l.types-1].Fields = make([]api.Kind, l.fields)
	}
	if l.funcs == 0 {
		return p
	}
	f := &p.Funcs[l.funcs-1]
	f.Slots, f.Results, f.Code = make([]api.Kind, l.slots), make([]api.Kind, l.results), make([]api.Ins, l.code)
	if l.code > 0 {
		f.Code[l.code-1].List = make([]int, l.list)
	}
	return p
}

// Each limit, at it and one above it. Params is no count.
func TestLimits(t *testing.T) {
	one := lists{1, 1, 1, 1, 1, 1, 1, 1}
	for _, x := range []struct {
		n     func(l *lists) *int
		limit int
	}{
		{func(l *lists) *int { return &l.types }, api.MaxTypes},
		{func(l *lists) *int { return &l.fields }, api.MaxFields},
		{func(l *lists) *int { return &l.globals }, api.MaxGlobal},
		{func(l *lists) *int { return &l.funcs }, api.MaxFuncs},
		{func(l *lists) *int { return &l.slots }, api.MaxSlots},
		{func(l *lists) *int { return &l.results }, api.MaxSlots},
		{func(l *lists) *int { return &l.code }, api.MaxCode},
		{func(l *lists) *int { return &l.list }, api.MaxList},
	} {
		for _, n := range []int{0, 1, x.limit - 1, x.limit} {
			l := one
			*x.n(&l) = n
			thereAndBack(t, l.program(), text(flat(l.program())))
		}
		for _, n := range []int{x.limit + 1, 2 * x.limit, 65535, 65536, 100000} {
			l := one
			*x.n(&l) = n
			p := l.program()
			refuses(t, p, api.ErrCount)
			list := flat(p)
			i := slices.IndexFunc(list, field.bad)
			faults(t, text(list[:i+1]), api.ErrCount, len(text(list[:i])))
		}
	}
	p := api.Program{Funcs: []api.Func{{Params: 65535}}}
	thereAndBack(t, p, text(flat(p)))
}

// places are where a program's numbers stand, but for its Imms, in the order of what is written.
func places(p *api.Program) []func(n int) {
	var list []func(n int)
	kinds := func(row []api.Kind) {
		for i := range row {
			list = append(list, func(n int) { row[i] = api.Kind(n) })
		}
	}
	for _, t := range p.Types {
		kinds(t.Fields)
	}
	kinds(p.Globals)
	for i := range p.Funcs {
		f := &p.Funcs[i]
		list = append(list, func(n int) { f.Params = n })
		kinds(f.Slots)
		kinds(f.Results)
		for k := range f.Code {
			s := &f.Code[k]
			for _, at := range []*int{&s.Op, &s.A, &s.B, &s.C} {
				list = append(list, func(n int) { *at = n })
			}
			for i := range s.List {
				list = append(list, func(n int) { s.List[i] = n })
			}
		}
	}
	return list
}

func TestEachNumberOfAProgram(t *testing.T) {
	p := sample()
	for i := range places(&p) {
		for _, n := range []int{0, 1, 65534, 65535} {
			q := bare(p)
			places(&q)[i](n)
			thereAndBack(t, q, text(flat(q)))
		}
		for _, n := range []int{math.MinInt, math.MinInt + 65535, -1 << 32, -65536, -65535, -2, -1, 65536, 65537, 1 << 32, 1<<32 + 1, math.MaxInt - 1, math.MaxInt} {
			q := bare(p)
			places(&q)[i](n)
			refuses(t, q, api.ErrArg)
		}
	}
}

// mistake is something that Encode refuses.
type mistake struct {
	e    api.Errno
	make func(p *api.Program)
}

// mistakes are those that may be made together, in the order of what is written.
func mistakes() []mistake {
	return []mistake{
		{api.ErrCount, func(p *api.Program) { p.Types = append(p.Types, make([]api.Type, api.MaxTypes)...) }},
		{api.ErrCount, func(p *api.Program) {
			p.Types[0].Fields = append(p.Types[0].Fields, make([]api.Kind, api.MaxFields)...)
		}},
		{api.ErrArg, func(p *api.Program) { p.Types[0].Fields[0] = -1 }},
		{api.ErrArg, func(p *api.Program) { p.Types[2].Fields[1] = 65536 }},
		{api.ErrCount, func(p *api.Program) { p.Globals = append(p.Globals, make([]api.Kind, api.MaxGlobal)...) }},
		{api.ErrArg, func(p *api.Program) { p.Globals[0] = 65536 }},
		{api.ErrCount, func(p *api.Program) { p.Funcs = append(p.Funcs, make([]api.Func, api.MaxFuncs)...) }},
		{api.ErrArg, func(p *api.Program) { p.Funcs[0].Params = -1 }},
		{api.ErrCount, func(p *api.Program) { p.Funcs[0].Slots = make([]api.Kind, api.MaxSlots+1) }},
		{api.ErrCount, func(p *api.Program) { p.Funcs[0].Results = make([]api.Kind, api.MaxSlots+1) }},
		{api.ErrCount, func(p *api.Program) { p.Funcs[0].Code = append(p.Funcs[0].Code, make([]api.Ins, api.MaxCode)...) }},
		{api.ErrArg, func(p *api.Program) { p.Funcs[0].Code[0].Op = -1 }},
		{api.ErrArg, func(p *api.Program) { p.Funcs[0].Code[0].C = math.MaxInt }},
		{api.ErrCount, func(p *api.Program) { p.Funcs[0].Code[0].List = make([]int, api.MaxList+1) }},
		{api.ErrArg, func(p *api.Program) { p.Funcs[0].Code[1].List[1] = math.MinInt }},
		{api.ErrArg, func(p *api.Program) { p.Funcs[2].Params = 65536 }},
		{api.ErrArg, func(p *api.Program) { p.Funcs[2].Results[1] = -1 }},
		{api.ErrCount, func(p *api.Program) { p.Funcs[2].Code[0].List = make([]int, api.MaxList+1) }},
	}
}

// tooLong is the sample with so many instructions that it has more than MaxBytes bytes.
func tooLong() api.Program {
	p := sample()
	for i := range 2 {
		p.Funcs[1+i].Code = append(p.Funcs[1+i].Code, make([]api.Ins, api.MaxCode-1)...)
		for k := range p.Funcs[1+i].Code {
			p.Funcs[1+i].Code[k].List = slices.Repeat([]int{65535}, api.MaxList)
		}
	}
	return p
}

// Of several errors the first in the order of what is written, and ErrLong behind all of them.
func TestFirstError(t *testing.T) {
	for i, first := range mistakes() {
		for k, second := range mistakes()[i:] {
			for _, make := range []func() api.Program{sample, tooLong} {
				p := make()
				second.make(&p)
				if k > 0 {
					first.make(&p)
				}
				refuses(t, p, first.e)
			}
		}
	}
	refuses(t, tooLong(), api.ErrLong)
}

// ofBytes is a program of so many bytes, of more than some 7000: a list's numbers are a byte each.
func ofBytes(n int) api.Program {
	p := api.Program{Funcs: make([]api.Func, 4)}
	for i := range p.Funcs {
		p.Funcs[i].Code = make([]api.Ins, api.MaxCode)
	}
	left := n - len(text(flat(p)))
	for i := range p.Funcs {
		for k := range p.Funcs[i].Code {
			more := min(left, api.MaxList)
			p.Funcs[i].Code[k].List = make([]int, more)
			left -= more
		}
	}
	return p
}

func TestMaxBytes(t *testing.T) {
	for _, n := range []int{api.MaxBytes - 1, api.MaxBytes, api.MaxBytes + 1, api.MaxBytes + 2, 20000} {
		p := ofBytes(n)
		b := text(flat(p))
		if len(b) != n {
			t.Fatalf("the test's program has %d bytes, not %d", len(b), n)
		}
		if n <= api.MaxBytes {
			thereAndBack(t, p, b)
			continue
		}
		refuses(t, p, api.ErrLong)
		faults(t, b, api.ErrLong, 0)
	}
}

// Of a text of too many bytes no other fault is told; of one of MaxBytes bytes each.
func TestTooLongFirst(t *testing.T) {
	for _, first := range [][]byte{{33}, {128, 0}, {0, 33}, {0, 0, 0}, {255, 255, 255, 255, 255, 255, 255, 255, 255, 255}} {
		b := slices.Concat(first, make([]byte, api.MaxBytes+1-len(first)))
		faults(t, b, api.ErrLong, 0)
		if got, want := decodeModel(b[:api.MaxBytes]), (api.Fault{}); got == want {
			t.Fatalf("the test's text has no fault")
		} else {
			faults(t, b[:api.MaxBytes], got.E, got.At)
		}
	}
	faults(t, bytes.Repeat([]byte{128}, 9), api.ErrEnd, 0)
	faults(t, bytes.Repeat([]byte{128}, api.MaxBytes), api.ErrForm, 0)
	faults(t, bytes.Repeat([]byte{128}, api.MaxBytes+1), api.ErrLong, 0)
	faults(t, make([]byte, api.MaxBytes), api.ErrEnd, 3)
}

func TestNilAndEmpty(t *testing.T) {
	empty := api.Program{
		Types:   []api.Type{{Fields: []api.Kind{}}},
		Globals: []api.Kind{},
		Funcs:   []api.Func{{Slots: []api.Kind{}, Results: []api.Kind{}, Code: []api.Ins{{List: []int{}}}}},
	}
	b := []byte{1, 0, 0, 0, 1, 0, 0, 0, 1, 0, 0, 0, 0, 0, 0}
	thereAndBack(t, empty, b)
	thereAndBack(t, bare(empty), b)
	thereAndBack(t, api.Program{}, []byte{0, 0, 0})
	thereAndBack(t, api.Program{Types: []api.Type{}, Funcs: []api.Func{}}, []byte{0, 0, 0})
	faults(t, []byte{}, api.ErrEnd, 0)
}

// A program and a text that are handed in are the same behind a call, and what is answered shares nothing with them.
func TestHandedIn(t *testing.T) {
	p := sample()
	b, _ := code.Encode(p)
	if !reflect.DeepEqual(p, sample()) {
		t.Errorf("Encode has changed its program: %v", p)
	}
	want := bytes.Clone(b)
	q, _ := code.Decode(b)
	if !bytes.Equal(b, want) {
		t.Errorf("Decode has changed its text: %v", b)
	}
	clear(b[:cap(b)])
	if !reflect.DeepEqual(bare(q), bare(sample())) {
		t.Errorf("Decode's program has changed with its text: %v", q)
	}
	encodes(t, p, want)
	c, _ := code.Encode(p)
	for _, set := range places(&p) {
		set(77)
	}
	p.Types[0].Array = false
	if !bytes.Equal(c, want) {
		t.Errorf("Encode's text has changed with its program: %v", c)
	}
}

// behind is a list with a mark behind its length.
func behind[T any](list []T, mark T) []T {
	return append(copied(list), mark)[:len(list)]
}

// What lies behind a list's length is neither read nor written nor handed out.
func TestBehindTheLength(t *testing.T) {
	p := bare(sample())
	for i := range p.Types {
		p.Types[i].Fields = behind(p.Types[i].Fields, 99)
	}
	for i := range p.Funcs {
		f := &p.Funcs[i]
		for k := range f.Code {
			f.Code[k].List = behind(f.Code[k].List, 99)
		}
		f.Slots, f.Results, f.Code = behind(f.Slots, 99), behind(f.Results, 99), behind(f.Code, api.Ins{Op: 99})
	}
	p.Types, p.Globals, p.Funcs = behind(p.Types, api.Type{Array: true}), behind(p.Globals, 99), behind(p.Funcs, api.Func{Params: 99})
	want := text(flat(sample()))
	b := append(bytes.Clone(want), 99, 98)[:len(want)]
	thereAndBack(t, p, b)
	if x := b[:len(b)+2]; x[len(b)] != 99 || x[len(b)+1] != 98 {
		t.Errorf("written behind the text: %v", x)
	}
	f := p.Funcs[0]
	if f.Slots[:1][0] != 99 || f.Results[:1][0] != 99 || f.Code[:3][2].Op != 99 || f.Code[1].List[:3][2] != 99 {
		t.Errorf("written behind a function's lists: %v", f)
	}
	if !p.Types[:4][3].Array || p.Types[1].Fields[:1][0] != 99 || p.Globals[:4][3] != 99 || p.Funcs[:4][3].Params != 99 {
		t.Errorf("written behind a program's lists: %v", p)
	}
	faults(t, append(bytes.Clone(want[:len(want)-1]), want[len(want)-1])[:len(want)-1], api.ErrEnd, len(want)-2)
}

// fill writes another number all over a list, its spare room too.
func fill[T any](list []T, x T) {
	list = list[:cap(list)]
	for i := range list {
		list[i] = x
	}
}

// No two lists of an answer share memory, spare room neither; nor do two answers.
func TestNewMemory(t *testing.T) {
	b := text(flat(sample()))
	p, _ := code.Decode(b)
	q, _ := code.Decode(b)
	want := bare(sample())
	same := func(what string, got, want any) {
		t.Helper()
		if !reflect.DeepEqual(got, want) {
			t.Errorf("%s: %v, want %v", what, got, want)
		}
	}
	for i := range p.Types {
		fill(p.Types[i].Fields, 555)
		for k := i + 1; k < len(p.Types); k++ {
			same("a type's fields", copied(p.Types[k].Fields), want.Types[k].Fields)
		}
	}
	same("globals", p.Globals, want.Globals)
	fill(p.Globals, 555)
	for i := range p.Funcs {
		f := &p.Funcs[i]
		for k := range f.Code {
			same("an instruction's list", copied(f.Code[k].List), want.Funcs[i].Code[k].List)
			fill(f.Code[k].List, 555)
		}
		same("slots", copied(f.Slots), want.Funcs[i].Slots)
		fill(f.Slots, 555)
		same("results", copied(f.Results), want.Funcs[i].Results)
		fill(f.Results, 555)
		fill(f.Code, api.Ins{Op: 555})
	}
	fill(p.Funcs, api.Func{})
	fill(p.Types, api.Type{})
	same("another answer", bare(q), want)
	r, _ := code.Decode(b)
	same("a third answer", bare(r), want)
	x, _ := code.Encode(q)
	y, _ := code.Encode(q)
	fill(x, 55)
	if !bytes.Equal(y, b) {
		t.Errorf("Encode's answers share memory: %v", y)
	}
}

// What a call answers hangs on nothing that was asked ahead of it.
func TestAskedAgain(t *testing.T) {
	for range 2 {
		thereAndBack(t, sample(), text(flat(sample())))
		refuses(t, tooLong(), api.ErrLong)
		faults(t, []byte{0, 128, 0}, api.ErrForm, 1)
		thereAndBack(t, api.Program{}, []byte{0, 0, 0})
	}
}

// against holds Encode and Decode of a program's bytes against the model.
func against(t testing.TB, p api.Program) {
	t.Helper()
	want, e := encodeModel(p)
	got, f := code.Encode(p)
	if !bytes.Equal(got, want) || f != e {
		t.Fatalf("Encode(%v): %v, %d, want %v, %d", p, got, f, want, e)
	}
	if e == api.OK {
		decodes(t, want, p)
	}
}

// textAgainst holds Decode of a text against the model, and Encode of what it answers against the text.
func textAgainst(t testing.TB, b []byte) {
	t.Helper()
	p, fault := code.Decode(b)
	if want := decodeModel(b); fault != want {
		t.Fatalf("Decode(%v): %v, want %v", b, fault, want)
	}
	if fault.E == api.OK {
		encodes(t, p, b)
	} else if !reflect.DeepEqual(bare(p), api.Program{}) {
		t.Errorf("Decode(%v): %v beside %v", b, p, fault)
	}
}

func TestManyPrograms(t *testing.T) {
	r := rand.New(rand.NewSource(6))
	for i := range 4000 {
		against(t, maker{r, i%2 == 0, 1 + i%9}.program())
	}
}

// Texts of programs with some bytes changed, put in or taken out.
func TestManyTexts(t *testing.T) {
	r := rand.New(rand.NewSource(7))
	for i := range 6000 {
		b := text(flat(maker{r, false, 1 + i%6}.program()))
		for range r.Intn(3) {
			at := r.Intn(len(b) + 1)
			switch r.Intn(4) {
			case 0:
				b = slices.Insert(b, at, byte(r.Intn(256)))
			case 1:
				b = slices.Delete(b, at, min(at+1, len(b)))
			case 2:
				b = b[:at]
			case 3:
				if at < len(b) {
					b[at] = []byte{0, 1, 2, 32, 33, 127, 128, 129, 255}[r.Intn(9)]
				}
			}
			if len(b) == 0 {
				break
			}
		}
		textAgainst(t, b)
	}
}

// All texts of up to three bytes of a few, and the one byte that each may begin with.
func TestShortTexts(t *testing.T) {
	some := []byte{0, 1, 2, 32, 33, 127, 128, 129, 255}
	for a := range 256 {
		textAgainst(t, []byte{byte(a)})
		for b := range 256 {
			textAgainst(t, []byte{byte(a), byte(b)})
			for _, c := range some {
				textAgainst(t, []byte{byte(a), byte(b), c})
			}
		}
	}
}

// A call that panics fails the test by itself.
func FuzzDecode(f *testing.F) {
	f.Add([]byte{})
	f.Add([]byte{0, 0, 0, 5})
	f.Add(text(flat(sample())))
	f.Add(bytes.Repeat([]byte{255}, 10))
	f.Fuzz(func(t *testing.T, b []byte) { textAgainst(t, b) })
}

func FuzzEncode(f *testing.F) {
	f.Add(1, 2, 3, uint64(4), 5, 6)
	f.Add(-1, 65535, 65536, uint64(math.MaxUint64), math.MinInt, math.MaxInt)
	f.Fuzz(func(t *testing.T, op, a, b int, imm uint64, kind, list int) {
		against(t, api.Program{
			Types:   []api.Type{{Array: a%2 == 0, Fields: []api.Kind{api.Kind(kind)}}},
			Globals: []api.Kind{api.Kind(kind)},
			Funcs:   []api.Func{{Params: a, Slots: make([]api.Kind, uint(b)%40), Code: []api.Ins{{Op: op, A: a, B: b, Imm: imm, List: []int{list}}}}},
		})
	})
}
