package ideal_test

import (
	"math"
	"testing"

	"treadle/api"
)

func TestNewObjectIsNought(t *testing.T) {
	slots := kinds(ptr(node), num, flt, ptr(node), ptr(box), line(num), ptr(node), ptr(box), num)
	first := the(
		do(api.OpNew, 0, node), cons(1, 5), bits(2, 5), do(api.OpMove, 3, 0), do(api.OpNew, 4, box), makeLine(5, 0),
		do(api.OpLoad, 1, 0, 0), do(api.OpLoad, 2, 0, 1), do(api.OpLoad, 3, 0, 2), do(api.OpLoad, 4, 0, 3), do(api.OpLoad, 5, 0, 4),
		do(api.OpPEq, 8, 3, 6), show(1), show(2), show(8), do(api.OpPEq, 8, 4, 7), show(8), do(api.OpClose, 5), ret())
	got := outcome(t, slots, first...)
	want := []api.Event{event(api.EvPrint, 0, 0), event(api.EvFloat, 0, 0), event(api.EvPrint, 0, 1), event(api.EvPrint, 0, 1), event(api.EvPanic, 0, api.PanicNil)}
	expect(t, "a new object", got, want)
}

func TestFieldsAreApart(t *testing.T) {
	slots := kinds(ptr(node), ptr(node), num, flt, ptr(box), line(num), num, flt, ptr(box), line(num), ptr(node))
	got := outcome(t, slots,
		do(api.OpNew, 0, node), do(api.OpNew, 1, node), cons(2, 7), bits(3, math.Float64bits(2)), do(api.OpNew, 4, box), makeLine(5, 1),
		do(api.OpStore, 0, 2, 0), do(api.OpStore, 0, 3, 1), do(api.OpStore, 0, 1, 2), do(api.OpStore, 0, 4, 3), do(api.OpStore, 0, 5, 4),
		// What stood in the slots is gone, and the other object has nothing of it.
		cons(2, 0), bits(3, 0), do(api.OpLoad, 2, 0, 0), do(api.OpLoad, 3, 0, 1), show(2), show(3),
		do(api.OpLoad, 10, 0, 2), do(api.OpPEq, 6, 10, 1), show(6), do(api.OpLoad, 8, 0, 3), do(api.OpPEq, 6, 8, 4), show(6), do(api.OpLoad, 9, 0, 4), do(api.OpPEq, 6, 9, 5), show(6),
		do(api.OpLoad, 6, 1, 0), do(api.OpLoad, 7, 1, 1), show(6), show(7), do(api.OpLoad, 10, 1, 2), do(api.OpPEq, 6, 10, 0), show(6),
		// A field that leads to its own object, and the field of another slot's object.
		do(api.OpStore, 1, 1, 2), do(api.OpLoad, 1, 1, 2), do(api.OpLoad, 10, 0, 2), do(api.OpPEq, 6, 10, 1), show(6), ret())
	want := []api.Event{
		event(api.EvPrint, 0, 7), {Kind: api.EvFloat, Value: math.Float64bits(2)}, event(api.EvPrint, 0, 1), event(api.EvPrint, 0, 1), event(api.EvPrint, 0, 1),
		event(api.EvPrint, 0, 0), event(api.EvFloat, 0, 0), event(api.EvPrint, 0, 0), event(api.EvPrint, 0, 1), event(api.EvExit, 0, 0),
	}
	expect(t, "fields", got, want)
}

func TestPointersAreEqualIfTheyLeadToOneObject(t *testing.T) {
	slots := kinds(ptr(box), ptr(box), ptr(box), ptr(box), num, line(num), line(num), line(num), line(num), ptr(nums), ptr(nums), num)
	got := outcome(t, slots,
		do(api.OpPEq, 4, 0, 1), show(4), do(api.OpNew, 0, box), do(api.OpPEq, 4, 0, 1), show(4), do(api.OpPEq, 4, 1, 0), show(4), do(api.OpPEq, 4, 0, 0), show(4),
		do(api.OpNew, 1, box), do(api.OpPEq, 4, 0, 1), show(4), do(api.OpMove, 2, 0), do(api.OpPEq, 4, 0, 2), show(4), do(api.OpPEq, 4, 2, 1), show(4),
		do(api.OpPEq, 4, 5, 6), show(4), makeLine(5, 3), do(api.OpPEq, 4, 5, 6), show(4), makeLine(6, 3), do(api.OpPEq, 4, 5, 6), show(4), do(api.OpMove, 7, 6), do(api.OpPEq, 4, 7, 6), show(4),
		do(api.OpNewArr, 9, nums, 11), do(api.OpNewArr, 10, nums, 11), do(api.OpPEq, 4, 9, 10), show(4), do(api.OpMove, 10, 9), do(api.OpPEq, 4, 9, 10), show(4), ret())
	expect(t, "pointers", got, exits(1, 0, 0, 1, 0, 1, 0, 1, 0, 0, 1, 0, 1))
}

func TestOneObjectByTwoPointers(t *testing.T) {
	got := outcome(t, kinds(ptr(box), ptr(box), num),
		do(api.OpNew, 0, box), do(api.OpMove, 1, 0), cons(2, 6), do(api.OpStore, 0, 2, 0), cons(2, 0), do(api.OpLoad, 2, 1, 0), show(2),
		do(api.OpNew, 0, box), do(api.OpLoad, 2, 0, 0), show(2), do(api.OpLoad, 2, 1, 0), show(2), ret())
	expect(t, "an object", got, exits(6, 0, 6))
}

func TestNewArr(t *testing.T) {
	code := func(n int) []api.Ins {
		return the(cons(0, n), do(api.OpNewArr, 1, nums, 0), do(api.OpLen, 2, 1), show(2), ret())
	}
	slots := kinds(num, ptr(nums), num)
	for _, n := range []int{0, 1, 2, 64, 1000, api.MaxWords - 2, api.MaxWords - 1} {
		expect(t, "newarr", outcome(t, slots, code(n)...), exits(n))
	}
	for _, n := range []int{-1, -2, least, api.MaxWords, api.MaxWords + 1, 1 << 32, 1<<32 + 1, greatest} {
		expect(t, "newarr", outcome(t, slots, code(n)...), panics(api.PanicIndex))
	}
}

func TestElementsAreNoughtAtTheBeginning(t *testing.T) {
	got := outcome(t, kinds(num, ptr(nums), ptr(nodes), ptr(flts), ptr(lines), flt, ptr(node), ptr(node), line(num), num),
		cons(0, 3), do(api.OpNewArr, 1, nums, 0), do(api.OpNewArr, 2, nodes, 0), do(api.OpNewArr, 3, flts, 0), do(api.OpNewArr, 4, lines, 0),
		cons(0, 2), cons(9, 7), do(api.OpLoadX, 9, 1, 0), show(9), bits(5, 9), do(api.OpLoadX, 5, 3, 0), show(5), do(api.OpNew, 6, node), do(api.OpLoadX, 6, 2, 0), do(api.OpPEq, 9, 6, 7), show(9),
		do(api.OpLoadX, 8, 4, 0), do(api.OpClose, 8), ret())
	expect(t, "elements", got, []api.Event{event(api.EvPrint, 0, 0), event(api.EvFloat, 0, 0), event(api.EvPrint, 0, 1), event(api.EvPanic, 0, api.PanicNil)})
}

// elements is a program that makes an array of n elements, writes into the element at, and shows it, and then that at another one.
func elements(n, at int, last ...api.Ins) []api.Ins {
	return body(the(cons(0, n), do(api.OpNewArr, 1, nums, 0), cons(0, at), cons(2, 8)), last, the(ret()))
}

func TestElements(t *testing.T) {
	slots := kinds(num, ptr(nums), num, num)
	store := the(do(api.OpStoreX, 1, 2, 0), do(api.OpLoadX, 3, 1, 0), show(3))
	for _, n := range []int{1, 2, 3, 64, api.MaxWords - 1} {
		for _, at := range []int{0, n - 1, n / 2} {
			expect(t, "an element", outcome(t, slots, elements(n, at, store...)...), exits(8))
		}
	}
	for _, n := range []int{0, 1, 2, 64, api.MaxWords - 1} {
		for _, at := range []int{n, n + 1, -1, -2, least, greatest, 1 << 32, least + 1} {
			expect(t, "no such element", outcome(t, slots, elements(n, at, do(api.OpStoreX, 1, 2, 0))...), panics(api.PanicIndex))
			expect(t, "no such element", outcome(t, slots, elements(n, at, do(api.OpLoadX, 3, 1, 0))...), panics(api.PanicIndex))
		}
	}
	// Elements are apart, and so are arrays.
	got := outcome(t, kinds(num, ptr(nums), num, num, ptr(nums), num, num),
		cons(0, 3), do(api.OpNewArr, 1, nums, 0), do(api.OpNewArr, 4, nums, 0), cons(2, 2), cons(3, 1), cons(5, 50), cons(6, 60),
		do(api.OpStoreX, 1, 5, 2), do(api.OpStoreX, 1, 6, 3), do(api.OpLoadX, 0, 1, 2), show(0), do(api.OpLoadX, 0, 1, 3), show(0), cons(0, 0), do(api.OpLoadX, 0, 1, 0), show(0), do(api.OpLoadX, 0, 4, 2), show(0), ret())
	expect(t, "elements", got, exits(50, 60, 0, 0))
}

func TestElementsOfOtherKinds(t *testing.T) {
	got := outcome(t, kinds(num, ptr(flts), flt, ptr(nodes), ptr(node), ptr(node), num, ptr(lines), line(num), line(num), num),
		cons(0, 2), do(api.OpNewArr, 1, flts, 0), do(api.OpNewArr, 3, nodes, 0), do(api.OpNewArr, 7, lines, 0), cons(0, 1),
		bits(2, math.Float64bits(3)), do(api.OpStoreX, 1, 2, 0), bits(2, 0), do(api.OpLoadX, 2, 1, 0), show(2),
		do(api.OpNew, 4, node), do(api.OpStoreX, 3, 4, 0), do(api.OpLoadX, 5, 3, 0), do(api.OpPEq, 6, 4, 5), show(6), do(api.OpLoadX, 5, 3, 10), do(api.OpPEq, 6, 4, 5), show(6),
		makeLine(8, 0), do(api.OpStoreX, 7, 8, 0), do(api.OpLoadX, 9, 7, 0), do(api.OpPEq, 6, 8, 9), show(6), ret())
	expect(t, "elements", got, []api.Event{{Kind: api.EvFloat, Value: math.Float64bits(3)}, event(api.EvPrint, 0, 1), event(api.EvPrint, 0, 0), event(api.EvPrint, 0, 1), event(api.EvExit, 0, 0)})
}

// That a pointer is nil is told ahead of that there is no such element.
func TestNilPointers(t *testing.T) {
	for _, at := range []int{0, 1, -1, least, greatest} {
		for _, ins := range []api.Ins{do(api.OpLen, 0, 1), do(api.OpLoadX, 0, 1, 2), do(api.OpStoreX, 1, 0, 2)} {
			expect(t, "an array", outcome(t, kinds(num, ptr(nums), num), cons(2, at), ins, ret()), panics(api.PanicNil))
		}
	}
	for field, k := range kinds(num, flt, ptr(node), ptr(box), line(num)) {
		for _, ins := range []api.Ins{do(api.OpLoad, 0, 1, field), do(api.OpStore, 1, 0, field)} {
			expect(t, "an object", outcome(t, kinds(k, ptr(node)), ins, ret()), panics(api.PanicNil))
		}
	}
}

// An instruction that panics writes nothing: a call that was put off sees what stood there.
func TestWhatPanicsWritesNothing(t *testing.T) {
	shows := fun(0, kinds(num), do(api.OpGet, 0, gNum), show(0), ret())
	slots := kinds(num, ptr(nums), num, ptr(box))
	for _, ins := range []api.Ins{do(api.OpStoreX, 1, 2, 2), do(api.OpLoadX, 0, 1, 2), do(api.OpLoad, 0, 3, 0), do(api.OpDiv, 0, 2, 0)} {
		p := program(fun(0, slots, body(the(with(api.OpDefer, 1), do(api.OpNewArr, 1, nums, 0), cons(2, 7), cons(0, 0)), the(ins, do(api.OpSet, gNum, 2), ret()))...), shows)
		n := map[int]int{api.OpStoreX: api.PanicIndex, api.OpLoadX: api.PanicIndex, api.OpLoad: api.PanicNil, api.OpDiv: api.PanicDiv}[ins.Op]
		expect(t, "a panic", outcomeOf(t, p), panics(n, 0))
	}
}

func TestGlobals(t *testing.T) {
	slots := kinds(num, flt, ptr(node), ptr(nodes), line(num), line(ptr(node)), ptr(node), num)
	p := program(
		fun(0, slots, body(
			the(cons(0, 7), bits(1, math.Float64bits(4)), do(api.OpNew, 2, node), do(api.OpStore, 2, 0, 0), do(api.OpNewArr, 3, nodes, 0), makeLine(4, 1), makeLine(5, 0)),
			the(do(api.OpSet, gNum, 0), do(api.OpSet, gFlt, 1), do(api.OpSet, gNode, 2), do(api.OpSet, gNodes, 3), do(api.OpSet, gLine, 4), do(api.OpSet, gNodeLine, 5)),
			// The slots may change: the globals stay.
			the(cons(0, 1), bits(1, 0), do(api.OpNew, 2, node), with(api.OpGo, 1), do(api.OpSleep, 0), ret()))...),
		fun(0, slots,
			do(api.OpGet, 0, gNum), show(0), do(api.OpGet, 1, gFlt), show(1), do(api.OpGet, 2, gNode), do(api.OpLoad, 0, 2, 0), show(0), do(api.OpGet, 3, gNodes), do(api.OpLen, 0, 3), show(0),
			do(api.OpGet, 4, gLine), selOr(0, 0, 4, 0), show(0), do(api.OpGet, 5, gNodeLine), selOr(0, 0, 5, 2), show(0), stop(0)))
	want := []api.Event{
		event(api.EvPrint, 1, 7), {Kind: api.EvFloat, G: 1, Value: math.Float64bits(4)}, event(api.EvPrint, 1, 7), event(api.EvPrint, 1, 7),
		event(api.EvPrint, 1, 0), event(api.EvPrint, 1, -1), event(api.EvExit, 1, -1),
	}
	expect(t, "globals", outcomeOf(t, p), want)
}

func TestReferences(t *testing.T) {
	slots := kinds(num, num, ref, ref)
	got := outcome(t, slots,
		cons(0, 5), do(api.OpAddr, 2, 0), do(api.OpGetRef, 1, 2), show(1), cons(0, 6), do(api.OpGetRef, 1, 2), show(1),
		cons(1, 9), do(api.OpSetRef, 2, 1), show(0), do(api.OpAddr, 3, 1), do(api.OpSetRef, 3, 0), do(api.OpMove, 2, 3), cons(1, 4), do(api.OpGetRef, 0, 2), show(0), show(1),
		// A slot that refers to itself by name: it is read, then written.
		do(api.OpGetRef, 1, 3), show(1), do(api.OpSetRef, 3, 1), show(1), ret())
	expect(t, "references", got, exits(5, 6, 9, 4, 4, 4, 4))
}

func TestReferencesToNothing(t *testing.T) {
	for _, ins := range []api.Ins{do(api.OpGetRef, 0, 1), do(api.OpSetRef, 1, 0)} {
		expect(t, "a reference to nothing", outcome(t, kinds(num, ref), ins, ret()), panics(api.PanicNil))
		// A reference that is handed on is to nothing, too.
		p := program(fun(0, kinds(num, ref, ref), do(api.OpMove, 1, 2), with(api.OpCall, 1, 0, 1), ret()), fun(2, kinds(num, ref), ins, ret()))
		expect(t, "one that is handed on", outcomeOf(t, p), panics(api.PanicNil))
	}
}

// Each frame hands its references on, with one to a slot of its own: the last one writes into all of them.
func TestReferencesToSlotsOfOtherFrames(t *testing.T) {
	p := program(
		fun(0, kinds(num, ref, num, num), cons(0, 1), cons(2, 2), do(api.OpAddr, 1, 2), with(api.OpCall, 1, 1), show(0), show(2), show(3), ret()),
		fun(1, kinds(ref, num, num, ref), cons(1, 10), do(api.OpAddr, 3, 1), with(api.OpCall, 2, 0, 3), show(1), show(2), do(api.OpGetRef, 1, 0), show(1), ret()),
		fun(2, kinds(ref, ref, num, ref), cons(2, 100), do(api.OpAddr, 3, 2), with(api.OpCall, 3, 3, 1, 0), show(2), ret()),
		fun(3, kinds(ref, ref, ref, num, num),
			do(api.OpGetRef, 3, 0), show(3), do(api.OpGetRef, 4, 1), show(4), do(api.OpAdd, 3, 3, 4), do(api.OpGetRef, 4, 2), show(4), do(api.OpAdd, 3, 3, 4), do(api.OpSetRef, 0, 3), do(api.OpSetRef, 1, 4), do(api.OpSetRef, 2, 3), ret()))
	expect(t, "references", outcomeOf(t, p), exits(100, 10, 2, 112, 2, 0, 112, 1, 112, 0))
}

// The deepest frame writes into a slot of the first one.
func TestAReferenceThroughAllFrames(t *testing.T) {
	p := program(
		fun(0, kinds(num, ref, num), cons(2, api.MaxDepth-2), do(api.OpAddr, 1, 0), with(api.OpCall, 1, 1, 2), show(0), ret()),
		fun(2, kinds(ref, num, num), do(api.OpJumpZ, 1, 5), cons(2, 1), do(api.OpSub, 1, 1, 2), with(api.OpCall, 1, 0, 1), ret(), cons(1, 77), do(api.OpSetRef, 0, 1), ret()))
	expect(t, "a reference", outcomeOf(t, p), exits(77))
}

// A reference is to a slot of one frame, not of the function: each call has its own.
func TestReferencesOfOneFunctionsFrames(t *testing.T) {
	p := program(
		fun(0, kinds(num, ref), cons(0, 3), do(api.OpAddr, 1, 0), with(api.OpCall, 1, 0, 1), show(0), ret()),
		fun(2, kinds(num, ref, num, ref), do(api.OpGetRef, 2, 1), show(2), do(api.OpJumpZ, 0, 10), cons(2, -1), do(api.OpAdd, 0, 0, 2), do(api.OpAddr, 3, 0), with(api.OpCall, 1, 0, 3), cons(2, 10), do(api.OpAdd, 0, 0, 2), do(api.OpSetRef, 1, 0), ret()))
	expect(t, "references", outcomeOf(t, p), exits(3, 2, 1, 0, 30))
}
