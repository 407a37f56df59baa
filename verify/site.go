package verify

import (
	"cmp"
	"slices"

	"treadle/api"
)

// site is an instruction in its function, in its program. All but the instructions has been found right.
type site struct {
	api.Program
	api.Func
	api.Ins
}

// check answers the instruction's error.
func (s site) check() api.Errno {
	if s.Op < 1 || s.Op > api.MaxOp {
		return api.ErrOp
	}
	if !s.isInForm() {
		return api.ErrForm
	}
	if len(s.List) > api.MaxList {
		return api.ErrCount
	}
	return s.checkNamed()
}

// The fields that an instruction may use.
const (
	usesA = 1 << iota
	usesB
	usesC
	usesImm
	usesList
)

// uses tells which fields an instruction uses.
func uses(op int) int {
	switch op {
	case api.OpYield:
		return 0
	case api.OpJump, api.OpPanic, api.OpClose, api.OpSleep, api.OpPrint, api.OpExit:
		return usesA
	case api.OpConst, api.OpChan:
		return usesA | usesImm
	case api.OpMove, api.OpItoF, api.OpFtoI, api.OpJumpZ, api.OpNew, api.OpLen, api.OpGet, api.OpSet,
		api.OpRecover, api.OpSend, api.OpAddr, api.OpGetRef, api.OpSetRef:
		return usesA | usesB
	case api.OpRet:
		return usesList
	case api.OpCall, api.OpGo, api.OpDefer:
		return usesA | usesList
	case api.OpSelect:
		return usesA | usesB | usesList
	}
	return usesA | usesB | usesC
}

// isInForm tells whether the fields that the instruction doesn't use are zero.
func (s site) isInForm() bool {
	has := 0
	for field, is := range [...]bool{s.A != 0, s.B != 0, s.C != 0, s.Imm != 0, len(s.List) > 0} {
		if is {
			has |= usesA << field
		}
	}
	return has&^uses(s.Op) == 0
}

// checkNamed answers the error of what the instruction's fields name.
func (s site) checkNamed() api.Errno {
	switch s.Op {
	case api.OpConst, api.OpPrint:
		return s.checkNumber()
	case api.OpMove:
		_, e := s.alike(s.A, s.B)
		return e
	case api.OpPEq:
		return s.checkPEq()
	case api.OpJump:
		return s.target(s.A)
	case api.OpJumpZ:
		return cmp.Or(s.slots(want{s.A, api.KInt}), s.target(s.B))
	case api.OpNew, api.OpNewArr:
		return s.checkNew()
	case api.OpLen:
		_, e := s.object(s.B, true)
		return cmp.Or(e, s.slots(want{s.A, api.KInt}))
	case api.OpLoad:
		return s.field(s.B, s.A)
	case api.OpStore:
		return s.field(s.A, s.B)
	case api.OpLoadX:
		return s.element(s.B, s.A)
	case api.OpStoreX:
		return s.element(s.A, s.B)
	case api.OpGet:
		return s.global(s.B, s.A)
	case api.OpSet:
		return s.global(s.A, s.B)
	case api.OpCall:
		return s.checkCall()
	case api.OpRet:
		return s.list(s.Results)
	case api.OpGo, api.OpDefer:
		return s.checkBegun()
	case api.OpChan, api.OpClose:
		return s.checkChan()
	case api.OpSend:
		return s.carries(s.A, s.B)
	case api.OpRecv:
		k, e := s.carried(s.B)
		return cmp.Or(e, s.slots(want{s.A, k}, want{s.C, api.KInt}))
	case api.OpSelect:
		return s.checkSelect()
	}
	return s.slots(s.fixed()...)
}

// fixed are the slots of an instruction whose slots' kinds hang on nothing else.
func (s site) fixed() []want {
	const i, f, r = api.KInt, api.KFloat, api.KRef
	switch s.Op {
	case api.OpFAdd, api.OpFSub, api.OpFMul, api.OpFDiv:
		return []want{{s.A, f}, {s.B, f}, {s.C, f}}
	case api.OpFEq, api.OpFLess:
		return []want{{s.A, i}, {s.B, f}, {s.C, f}}
	case api.OpItoF:
		return []want{{s.A, f}, {s.B, i}}
	case api.OpFtoI:
		return []want{{s.A, i}, {s.B, f}}
	case api.OpRecover:
		return []want{{s.A, i}, {s.B, i}}
	case api.OpPanic, api.OpSleep, api.OpExit:
		return []want{{s.A, i}}
	case api.OpAddr, api.OpSetRef:
		return []want{{s.A, r}, {s.B, i}}
	case api.OpGetRef:
		return []want{{s.A, i}, {s.B, r}}
	case api.OpYield:
		return nil
	}
	return []want{{s.A, i}, {s.B, i}, {s.C, i}}
}

// want is a slot, and the kind that it must have.
type want struct {
	slot int
	kind api.Kind
}

// slots looks at slots together: first whether there are all, then whether all have their kinds.
func (s site) slots(wants ...want) api.Errno {
	missed := api.OK
	for _, w := range wants {
		k, e := s.kindOf(w.slot)
		if e != api.OK {
			return e
		}
		if k != w.kind {
			missed = api.ErrKind
		}
	}
	return missed
}

// kindOf is a slot's kind.
func (s site) kindOf(slot int) (api.Kind, api.Errno) {
	if slot < 0 || slot >= len(s.Slots) {
		return 0, api.ErrSlot
	}
	return s.Slots[slot], api.OK
}

// alike asks for two slots of one kind, and answers it.
func (s site) alike(x, y int) (api.Kind, api.Errno) {
	k, e := s.kindOf(x)
	return k, cmp.Or(e, s.slots(want{y, k}))
}

// carried is the kind of what the channel in a slot carries.
func (s site) carried(slot int) (api.Kind, api.Errno) {
	k, e := s.kindOf(slot)
	if e != api.OK {
		return 0, e
	}
	if !isChan(k) {
		return 0, api.ErrKind
	}
	return k - api.Chan, api.OK
}

// carries asks for a channel in a slot, then for a slot with what it carries.
func (s site) carries(channel, value int) api.Errno {
	k, e := s.carried(channel)
	return cmp.Or(e, s.slots(want{value, k}))
}

// object is the type of what the pointer in a slot leads to: an array, or none.
func (s site) object(slot int, array bool) (api.Type, api.Errno) {
	k, e := s.kindOf(slot)
	if e != api.OK {
		return api.Type{}, e
	}
	if !IsRef(k) || isChan(k) {
		return api.Type{}, api.ErrKind
	}
	t := s.Types[k-api.Ptr]
	if t.Array != array {
		return api.Type{}, api.ErrType
	}
	return t, api.OK
}

// field asks for an object in a slot, then for a slot with its field C.
func (s site) field(object, value int) api.Errno {
	t, e := s.object(object, false)
	if e != api.OK {
		return e
	}
	if s.C < 0 || s.C >= len(t.Fields) {
		return api.ErrType
	}
	return s.slots(want{value, t.Fields[s.C]})
}

// element asks for an array in a slot, then for a slot with an element of it, and for the element's number.
func (s site) element(array, value int) api.Errno {
	t, e := s.object(array, true)
	if e != api.OK {
		return e
	}
	return s.slots(want{value, t.Fields[0]}, want{s.C, api.KInt})
}

// global asks for a global, then for a slot of its kind.
func (s site) global(global, slot int) api.Errno {
	if global < 0 || global >= len(s.Globals) {
		return api.ErrGlobal
	}
	return s.slots(want{slot, s.Globals[global]})
}

// target asks for an instruction to go on at.
func (s site) target(at int) api.Errno {
	if at < 0 || at >= len(s.Code) {
		return api.ErrJump
	}
	return api.OK
}

// list asks for as many slots in the list as there are kinds, and of these.
func (s site) list(kinds []api.Kind) api.Errno {
	if len(s.List) != len(kinds) {
		return api.ErrCount
	}
	wants := make([]want, len(kinds))
	for i, k := range kinds {
		wants[i] = want{s.List[i], k}
	}
	return s.slots(wants...)
}

// checkNumber asks for an int or a float.
func (s site) checkNumber() api.Errno {
	k, e := s.kindOf(s.A)
	if e == api.OK && k != api.KInt && k != api.KFloat {
		return api.ErrKind
	}
	return e
}

// checkPEq asks for an int, then for two pointers or channels of one kind.
func (s site) checkPEq() api.Errno {
	if e := s.slots(want{s.A, api.KInt}); e != api.OK {
		return e
	}
	k, e := s.alike(s.B, s.C)
	if e == api.OK && !IsRef(k) {
		return api.ErrKind
	}
	return e
}

// checkNew asks for a type of objects, or of arrays, then for a pointer to it, and for the number of elements.
func (s site) checkNew() api.Errno {
	array := s.Op == api.OpNewArr
	if s.B < 0 || s.B >= len(s.Types) || s.Types[s.B].Array != array {
		return api.ErrType
	}
	wants := []want{{s.A, api.Ptr + api.Kind(s.B)}}
	if array {
		wants = append(wants, want{s.C, api.KInt})
	}
	return s.slots(wants...)
}

// called is the function A.
func (s site) called() (api.Func, api.Errno) {
	if s.A < 0 || s.A >= len(s.Funcs) {
		return api.Func{}, api.ErrFunc
	}
	return s.Funcs[s.A], api.OK
}

// checkCall asks for a function, then for its arguments and for where its results go.
func (s site) checkCall() api.Errno {
	f, e := s.called()
	if e != api.OK {
		return e
	}
	return s.list(slices.Concat(f.Slots[:f.Params], f.Results))
}

// checkBegun asks for a function whose results nobody waits for and whose arguments outlive the frame, then for these.
func (s site) checkBegun() api.Errno {
	f, e := s.called()
	if e != api.OK {
		return e
	}
	if len(f.Results) > 0 {
		return api.ErrFunc
	}
	params := f.Slots[:f.Params]
	if slices.Contains(params, api.KRef) {
		return api.ErrKind
	}
	return s.list(params)
}

// checkChan asks for not too many places, then for a channel.
func (s site) checkChan() api.Errno {
	if s.Imm > api.MaxCap {
		return api.ErrCount
	}
	_, e := s.carried(s.A)
	return e
}

// checkSelect asks for cases, then for where the number of one goes.
func (s site) checkSelect() api.Errno {
	if s.B < 0 || s.B > 1 || len(s.List)%3 != 0 {
		return api.ErrCount
	}
	for c := range slices.Chunk(s.List, 3) {
		if e := s.checkCase(c[0], c[1], c[2]); e != api.OK {
			return e
		}
	}
	return s.slots(want{s.A, api.KInt})
}

// checkCase asks for a send or a receive, then for its channel, then for its slot.
func (s site) checkCase(sort, channel, value int) api.Errno {
	if sort < 0 || sort > 1 {
		return api.ErrForm
	}
	return s.carries(channel, value)
}
