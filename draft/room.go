package draft

import (
	"slices"

	"treadle/api"
)

// Spoil changes all that there is in a program.
func Spoil(p api.Program) {
	for i := range p.Types {
		clear(p.Types[i].Fields)
		p.Types[i] = api.Type{}
	}
	clear(p.Globals)
	for i := range p.Funcs {
		f := &p.Funcs[i]
		for at := range f.Code {
			for k := range f.Code[at].List {
				f.Code[at].List[k] = 31
			}
			f.Code[at] = api.Ins{Op: api.OpPanic, A: 31}
		}
		clear(f.Slots)
		clear(f.Results)
		*f = api.Func{}
	}
}

// spare are the items with room behind them, in which others stand.
func spare[T any](list []T, behind T) []T {
	long := append(slices.Clone(list), behind, behind, behind)
	return long[:len(list)]
}

// Roomy is a program whose lists have spare room.
func Roomy(p api.Program) api.Program {
	for i := range p.Types {
		p.Types[i].Fields = spare(p.Types[i].Fields, Ref)
	}
	for i := range p.Funcs {
		f := &p.Funcs[i]
		for at := range f.Code {
			f.Code[at].List = spare(f.Code[at].List, 77)
		}
		f.Slots, f.Results, f.Code = spare(f.Slots, 99), spare(f.Results, 99), spare(f.Code, api.Ins{Op: 99})
	}
	p.Types, p.Globals, p.Funcs = spare(p.Types, api.Type{}), spare(p.Globals, 99), spare(p.Funcs, api.Func{Params: 99})
	return p
}

// full are the items with what stands in the room behind them.
func full[T any](list []T) []T {
	return slices.Clone(list[:cap(list)])
}

// Whole are all lists of a program, with what stands in the room behind them.
func Whole(p api.Program) api.Program {
	p = api.Program{Types: full(p.Types), Globals: full(p.Globals), Funcs: full(p.Funcs)}
	for i := range p.Types {
		p.Types[i].Fields = full(p.Types[i].Fields)
	}
	for i := range p.Funcs {
		f := &p.Funcs[i]
		f.Slots, f.Results, f.Code = full(f.Slots), full(f.Results), full(f.Code)
		for at := range f.Code {
			f.Code[at].List = full(f.Code[at].List)
		}
	}
	return p
}
