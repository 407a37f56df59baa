package verify_test

import (
	"slices"
	"strings"

	"treadle/api"
)

// form is what an instruction asks for: the fields that it uses (I its Imm, L its List), and steps, one behind the other.
//
// A step of slots names fields, each with a kind: i, f, r; n an int or a float; p a pointer; c a channel; R one of both;
// =B the kind of the slot B; *B what the channel B carries; &B a pointer to the type B; @B the kind of the global B;
// .B the field C of what B points to; [B its elements. Such a step looks first whether there are all, then at their kinds.
// Each other step begins with a mark: !.
type form struct{ uses, steps string }

// forms are those of all instructions.
func forms() map[int]form {
	abc := form{"ABC", "A:i B:i C:i"}
	floats := form{"ABC", "A:f B:f C:f"}
	compared := form{"ABC", "A:i B:f C:f"}
	ended := form{"A", "A:i"}
	begun := form{"AL", "!func !results !refs !params"}
	return map[int]form{
		api.OpConst: {"AI", "A:n"}, api.OpMove: {"AB", "A:=B,B:=A"},
		api.OpAdd: abc, api.OpSub: abc, api.OpMul: abc, api.OpDiv: abc, api.OpMod: abc, api.OpAnd: abc, api.OpOr: abc,
		api.OpXor: abc, api.OpShl: abc, api.OpShr: abc, api.OpEq: abc, api.OpLess: abc,
		api.OpFAdd: floats, api.OpFSub: floats, api.OpFMul: floats, api.OpFDiv: floats, api.OpFEq: compared, api.OpFLess: compared,
		api.OpItoF: {"AB", "A:f B:i"}, api.OpFtoI: {"AB", "A:i B:f"}, api.OpPEq: {"ABC", "A:i; B:R C:=B"},
		api.OpJump: {"A", "!jumpA"}, api.OpJumpZ: {"AB", "A:i; !jumpB"},
		api.OpNew: {"AB", "!object; A:&B"}, api.OpNewArr: {"ABC", "!array; A:&B C:i"}, api.OpLen: {"AB", "B:p; !arrayB; A:i"},
		api.OpLoad: {"ABC", "B:p; !objectB !fieldB; A:.B"}, api.OpStore: {"ABC", "A:p; !objectA !fieldA; B:.A"},
		api.OpLoadX: {"ABC", "B:p; !arrayB; A:[B C:i"}, api.OpStoreX: {"ABC", "A:p; !arrayA; B:[A C:i"},
		api.OpGet: {"AB", "!globalB; A:@B"}, api.OpSet: {"AB", "!globalA; B:@A"},
		api.OpCall: {"AL", "!func !all"}, api.OpRet: {"L", "!returned"}, api.OpGo: begun, api.OpDefer: begun,
		api.OpPanic: ended, api.OpRecover: {"AB", "A:i B:i"}, api.OpChan: {"AI", "!places; A:c"},
		api.OpSend: {"AB", "A:c; B:*A"}, api.OpRecv: {"ABC", "B:c; A:*B C:i"}, api.OpClose: {"A", "A:c"},
		api.OpSelect: {"ABL", "!cases; A:i"}, api.OpSleep: ended, api.OpYield: {"", ""}, api.OpPrint: {"A", "A:n"},
		api.OpAddr: {"AB", "A:r B:i"}, api.OpGetRef: {"AB", "A:i B:r"}, api.OpSetRef: {"AB", "A:r B:i"}, api.OpExit: ended,
	}
}

// every are the forms, made once.
var every = forms()

// look is an instruction in its function, in its program.
type look struct {
	p   api.Program
	f   api.Func
	ins api.Ins
}

// field is the number of the field of this name.
func (l look) field(name byte) int {
	return map[byte]int{'A': l.ins.A, 'B': l.ins.B, 'C': l.ins.C}[name]
}

// has tells whether there is such a slot.
func (l look) has(slot int) bool {
	return slot >= 0 && slot < len(l.f.Slots)
}

// pointed is the type to which the slot of a field points.
func (l look) pointed(name byte) api.Type {
	return l.p.Types[l.f.Slots[l.field(name)]-16]
}

// fits tells whether a kind is the one that is asked for.
func (l look) fits(k api.Kind, asked string) bool {
	switch asked[0] {
	case 'i':
		return k == 0
	case 'f':
		return k == 1
	case 'r':
		return k == 2
	case 'n':
		return k == 0 || k == 1
	case 'p':
		return k >= 16 && k < 64
	case 'c':
		return k >= 64
	case 'R':
		return k >= 16
	case '=':
		return k == l.f.Slots[l.field(asked[1])]
	case '*':
		return k+64 == l.f.Slots[l.field(asked[1])]
	case '&':
		return k == api.Kind(16+l.field(asked[1]))
	case '@':
		return k == l.p.Globals[l.field(asked[1])]
	case '.':
		return k == l.pointed(asked[1]).Fields[l.ins.C]
	}
	return k == l.pointed(asked[1]).Fields[0]
}

// slots is the error of a step of slots.
func (l look) slots(step string) api.Errno {
	asked := strings.FieldsFunc(step, func(r rune) bool { return r == ' ' || r == ',' })
	for _, a := range asked {
		if !l.has(l.field(a[0])) {
			return api.ErrSlot
		}
	}
	for _, a := range asked {
		if !l.fits(l.f.Slots[l.field(a[0])], a[2:]) {
			return api.ErrKind
		}
	}
	return api.OK
}

// row is the error of a list of slots that are asked for as these kinds.
func (l look) row(kinds []api.Kind) api.Errno {
	if len(kinds) != len(l.ins.List) {
		return api.ErrCount
	}
	if slices.ContainsFunc(l.ins.List, func(slot int) bool { return !l.has(slot) }) {
		return api.ErrSlot
	}
	for i, k := range kinds {
		if l.f.Slots[l.ins.List[i]] != k {
			return api.ErrKind
		}
	}
	return api.OK
}

// cases is the error of a select's cases.
func (l look) cases() api.Errno {
	list := l.ins.List
	if l.ins.B != 0 && l.ins.B != 1 || len(list) != len(list)/3*3 {
		return api.ErrCount
	}
	for ; len(list) > 0; list = list[3:] {
		pair := look{l.p, l.f, api.Ins{A: list[1], B: list[2]}}
		if list[0] != 0 && list[0] != 1 {
			return api.ErrForm
		}
		if e := pair.slots("A:c"); e != api.OK {
			return e
		}
		if e := pair.slots("B:*A"); e != api.OK {
			return e
		}
	}
	return api.OK
}

// unless is an error, if something isn't so.
func unless(is bool, e api.Errno) api.Errno {
	if is {
		return api.OK
	}
	return e
}

// among tells whether there is such a one among so many.
func among(n, count int) bool {
	return n >= 0 && n < count
}

// mark is the error of a step that isn't one of slots.
func (l look) mark(step string) api.Errno {
	last := step[len(step)-1]
	var f api.Func
	if among(l.ins.A, len(l.p.Funcs)) {
		f = l.p.Funcs[l.ins.A]
	}
	switch step {
	case "!jumpA", "!jumpB":
		return unless(among(l.field(last), len(l.f.Code)), api.ErrJump)
	case "!object", "!array":
		return unless(among(l.ins.B, len(l.p.Types)) && l.p.Types[l.ins.B].Array == (step == "!array"), api.ErrType)
	case "!arrayA", "!arrayB":
		return unless(l.pointed(last).Array, api.ErrType)
	case "!objectA", "!objectB":
		return unless(!l.pointed(last).Array, api.ErrType)
	case "!fieldA", "!fieldB":
		return unless(among(l.ins.C, len(l.pointed(last).Fields)), api.ErrType)
	case "!globalA", "!globalB":
		return unless(among(l.field(last), len(l.p.Globals)), api.ErrGlobal)
	case "!func":
		return unless(among(l.ins.A, len(l.p.Funcs)), api.ErrFunc)
	case "!results":
		return unless(len(f.Results) == 0, api.ErrFunc)
	case "!refs":
		return unless(!slices.Contains(f.Slots[:f.Params], 2), api.ErrKind)
	case "!params":
		return l.row(f.Slots[:f.Params])
	case "!all":
		return l.row(append(slices.Clone(f.Slots[:f.Params]), f.Results...))
	case "!returned":
		return l.row(l.f.Results)
	case "!places":
		return unless(l.ins.Imm <= 16, api.ErrCount)
	}
	return l.cases()
}

// instruction is the error of an instruction.
func (l look) instruction() api.Errno {
	form, is := every[l.ins.Op]
	if !is {
		return api.ErrOp
	}
	for name, zero := range map[string]bool{
		"A": l.ins.A == 0, "B": l.ins.B == 0, "C": l.ins.C == 0, "I": l.ins.Imm == 0, "L": len(l.ins.List) == 0,
	} {
		if !zero && !strings.Contains(form.uses, name) {
			return api.ErrForm
		}
	}
	if len(l.ins.List) > 24 {
		return api.ErrCount
	}
	for _, step := range strings.Split(form.steps, ";") {
		marks := strings.Fields(step)
		if len(marks) > 0 && marks[0][0] != '!' {
			marks = []string{step}
		}
		for _, m := range marks {
			one := l.slots
			if m[0] == '!' {
				one = l.mark
			}
			if e := one(m); e != api.OK {
				return e
			}
		}
	}
	return api.OK
}

// kinds are all that there are, where there are so many types.
func kinds(types int) []api.Kind {
	list := []api.Kind{0, 1, 64, 65}
	for t := range types {
		list = append(list, api.Kind(16+t), api.Kind(80+t))
	}
	return list
}

// head is the error of all of a function but its instructions.
func head(p api.Program, i int) api.Errno {
	f := p.Funcs[i]
	if len(f.Slots) > 32 || len(f.Results) > 32 || len(f.Code) > 256 || !among(f.Params, len(f.Slots)+1) {
		return api.ErrCount
	}
	if i == 0 && f.Params+len(f.Results) != 0 {
		return api.ErrFunc
	}
	all := kinds(len(p.Types))
	none := func(k api.Kind) bool { return !slices.Contains(all, k) }
	if slices.ContainsFunc(f.Slots, func(k api.Kind) bool { return k != 2 && none(k) }) || slices.ContainsFunc(f.Results, none) {
		return api.ErrKind
	}
	if len(f.Code) == 0 {
		return api.ErrEnd
	}
	ends := []int{api.OpRet, api.OpJump, api.OpExit, api.OpPanic}
	return unless(slices.Contains(ends, f.Code[len(f.Code)-1].Op), api.ErrEnd)
}

// model is what Check is to answer.
func model(p api.Program) api.Fault {
	if len(p.Types) > 32 || len(p.Globals) > 32 || len(p.Funcs) > 32 || len(p.Funcs) < 1 {
		return api.Fault{E: api.ErrCount, Func: -1}
	}
	all := kinds(len(p.Types))
	none := func(k api.Kind) bool { return !slices.Contains(all, k) }
	for at, t := range p.Types {
		if len(t.Fields) < 1 || len(t.Fields) > 16 || t.Array && len(t.Fields) != 1 {
			return api.Fault{E: api.ErrCount, Func: -1, At: at}
		}
		if slices.ContainsFunc(t.Fields, none) {
			return api.Fault{E: api.ErrKind, Func: -1, At: at}
		}
	}
	if at := slices.IndexFunc(p.Globals, none); at >= 0 {
		return api.Fault{E: api.ErrGlobal, Func: -1, At: at}
	}
	for i := range p.Funcs {
		if e := head(p, i); e != api.OK {
			return api.Fault{E: e, Func: i}
		}
	}
	for i, f := range p.Funcs {
		for at, ins := range f.Code {
			if e := (look{p, f, ins}).instruction(); e != api.OK {
				return api.Fault{E: e, Func: i, At: at}
			}
		}
	}
	return api.Fault{}
}
