// Package sense is what layers 18 and 20 say alike of a program: what doesn't hang on who keeps the words.
package sense

import (
	"slices"

	"treadle/api"
)

// Own is a program of one's own: whoever has the other one may change it.
func Own(p api.Program) api.Program {
	p.Types = slices.Clone(p.Types)
	for i := range p.Types {
		p.Types[i].Fields = slices.Clone(p.Types[i].Fields)
	}
	p.Globals = slices.Clone(p.Globals)
	p.Funcs = slices.Clone(p.Funcs)
	for i := range p.Funcs {
		f := &p.Funcs[i]
		f.Slots, f.Results, f.Code = slices.Clone(f.Slots), slices.Clone(f.Results), slices.Clone(f.Code)
		for at := range f.Code {
			f.Code[at].List = slices.Clone(f.Code[at].List)
		}
	}
	return p
}
