package code_test

import (
	"bytes"
	"encoding/binary"
	"math"
	"math/rand"
	"slices"

	"treadle/api"
)

// field is a number of a program, in the order of what is written: at most limit, and one above it is an error.
type field struct {
	n, limit uint64 // a number below 0 is a great word
	above    api.Errno
}

func count(n, limit int) field { return field{uint64(n), uint64(limit), api.ErrCount} }
func flag(n uint64) field      { return field{n, 1, api.ErrForm} }
func number(n int) field       { return field{uint64(n), 65535, api.ErrArg} }
func imm(n uint64) field       { return field{n, math.MaxUint64, api.OK} }

// bad tells whether a number is at fault.
func (f field) bad() bool { return f.n > f.limit }

// plain are numbers of any kind, each as a field.
func plain[T ~int](limit int, list []T) []field {
	fields := []field{count(len(list), limit)}
	for _, n := range list {
		fields = append(fields, number(int(n)))
	}
	return fields
}

// flat are all the numbers of a program.
func flat(p api.Program) []field {
	list := []field{count(len(p.Types), 32)}
	for _, t := range p.Types {
		array := flag(0)
		if t.Array {
			array.n = 1
		}
		list = append(append(list, array), plain(16, t.Fields)...)
	}
	list = append(list, plain(32, p.Globals)...)
	list = append(list, count(len(p.Funcs), 32))
	for _, f := range p.Funcs {
		list = append(list, number(f.Params))
		list = append(list, plain(32, f.Slots)...)
		list = append(list, plain(32, f.Results)...)
		list = append(list, count(len(f.Code), 256))
		for _, s := range f.Code {
			list = append(list, number(s.Op), number(s.A), number(s.B), number(s.C), imm(s.Imm))
			list = append(list, plain(24, s.List)...)
		}
	}
	return list
}

// text are the bytes of numbers.
func text(list []field) []byte {
	var b []byte
	for _, f := range list {
		b = binary.AppendUvarint(b, f.n)
	}
	return b
}

// encodeModel is what Encode is to answer.
func encodeModel(p api.Program) ([]byte, api.Errno) {
	list := flat(p)
	if i := slices.IndexFunc(list, field.bad); i >= 0 {
		return nil, list[i].above
	}
	b := text(list)
	if len(b) > 16384 {
		return nil, api.ErrLong
	}
	return b, api.OK
}

// walk goes over the numbers of a text, as a program's: next answers the next number, and whether it is right.
type walk struct{ next func(f field) (int, bool) }

func (w walk) list(limit int, item func() bool) bool {
	n, ok := w.next(count(0, limit))
	for range n {
		ok = ok && item()
	}
	return ok
}

func (w walk) number() bool {
	_, ok := w.next(number(0))
	return ok
}

func (w walk) plain(limit int) bool {
	return w.list(limit, w.number)
}

func (w walk) typeOf() bool {
	_, ok := w.next(flag(0))
	return ok && w.plain(16)
}

func (w walk) instruction() bool {
	if !w.number() || !w.number() || !w.number() || !w.number() {
		return false
	}
	_, ok := w.next(imm(0))
	return ok && w.plain(24)
}

func (w walk) function() bool {
	return w.number() && w.plain(32) && w.plain(32) && w.list(256, w.instruction)
}

func (w walk) program() bool {
	return w.list(32, w.typeOf) && w.plain(32) && w.list(32, w.function)
}

// wordModel reads a number at the beginning of bytes.
func wordModel(b []byte) (uint64, int, api.Errno) {
	first := b[:min(9, len(b))]
	tenth := len(b) > 9 && !slices.ContainsFunc(first, func(x byte) bool { return x < 128 })
	n, size := binary.Uvarint(b)
	switch {
	case tenth && b[9] > 1:
		return 0, 0, api.ErrForm
	case size <= 0:
		return 0, 0, api.ErrEnd
	case !bytes.Equal(binary.AppendUvarint(nil, n), b[:size]):
		return 0, 0, api.ErrForm
	}
	return n, size, api.OK
}

// decodeModel is the fault that Decode is to answer.
func decodeModel(b []byte) api.Fault {
	if len(b) > 16384 {
		return api.Fault{E: api.ErrLong, Func: -1}
	}
	at, fault := 0, api.Fault{}
	w := walk{func(f field) (int, bool) {
		n, size, e := wordModel(b[at:])
		if e == api.OK && n > f.limit {
			e = f.above
		}
		if e != api.OK {
			fault = api.Fault{E: e, Func: -1, At: at}
			return 0, false
		}
		at += size
		return int(n), true
	}}
	if w.program() && at < len(b) {
		fault = api.Fault{E: api.ErrEnd, Func: -1, At: at}
	}
	return fault
}

// maker makes programs, right in their form, and now and then with a number at fault.
type maker struct {
	r      *rand.Rand
	faults bool
	size   int // how many items a list has at most, but for its limit
}

// few is how many items a list has.
func (m maker) few(limit int) int {
	if m.faults && m.r.Intn(400) == 0 {
		return limit + 1
	}
	if m.r.Intn(60) == 0 {
		return limit
	}
	return m.r.Intn(min(m.size, limit) + 1)
}

func (m maker) number() int {
	if m.faults && m.r.Intn(400) == 0 {
		return []int{-1, 65536, math.MinInt, math.MaxInt, -65536}[m.r.Intn(5)]
	}
	if m.r.Intn(3) == 0 {
		return m.r.Intn(65536)
	}
	return []int{0, 1, 2, 63, 64, 127, 128, 129, 16383, 16384, 65535}[m.r.Intn(11)]
}

func (m maker) imm() uint64 {
	switch m.r.Intn(3) {
	case 0:
		return m.r.Uint64() >> m.r.Intn(64)
	case 1:
		return 1<<m.r.Intn(64) - uint64(m.r.Intn(2))
	}
	return -uint64(m.r.Intn(3))
}

// items are a list of so many items at most; an empty one is nil.
func items[T any](m maker, limit int, item func() T) []T {
	var list []T
	for range m.few(limit) {
		list = append(list, item())
	}
	return list
}

func (m maker) kind() api.Kind { return api.Kind(m.number()) }

func (m maker) typeOf() api.Type {
	return api.Type{Array: m.r.Intn(2) == 0, Fields: items(m, 16, m.kind)}
}

func (m maker) instruction() api.Ins {
	return api.Ins{Op: m.number(), A: m.number(), B: m.number(), C: m.number(), Imm: m.imm(), List: items(m, 24, m.number)}
}

func (m maker) function() api.Func {
	return api.Func{
		Params: m.number(), Slots: items(m, 32, m.kind), Results: items(m, 32, m.kind), Code: items(m, 256, m.instruction),
	}
}

func (m maker) program() api.Program {
	return api.Program{Types: items(m, 32, m.typeOf), Globals: items(m, 32, m.kind), Funcs: items(m, 32, m.function)}
}
