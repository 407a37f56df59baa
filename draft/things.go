package draft

import "treadle/api"

// objects make objects, and read and write their fields.
func objects() []Sample {
	return []Sample{
		sample("a new object", Panics(api.PanicNil, 0, 1, 1), Kinds(Ptr(Node), Num, Ptr(Node), Ptr(Box), Line(Num), Ptr(Node), Ptr(Box)),
			Do(api.OpNew, 0, Node), Const(1, 5), Do(api.OpMove, 2, 0), Do(api.OpNew, 3, Box), MakeLine(4, 0),
			Do(api.OpLoad, 1, 0, 0), Show(1), Do(api.OpLoad, 2, 0, 2), Do(api.OpPEq, 1, 2, 5), Show(1), Do(api.OpLoad, 3, 0, 3), Do(api.OpPEq, 1, 3, 6), Show(1), Do(api.OpLoad, 4, 0, 4), Do(api.OpClose, 4), Ret()),
		sample("fields", Exits(7, 1, 1, 0, 3), Kinds(Ptr(Node), Ptr(Node), Num, Ptr(Box), Line(Num), Num),
			Do(api.OpNew, 0, Node), Do(api.OpNew, 1, Node), Const(2, 7), Do(api.OpNew, 3, Box), MakeLine(4, 1), Const(5, 3), Do(api.OpSend, 4, 5),
			Do(api.OpStore, 0, 2, 0), Do(api.OpStore, 0, 1, 2), Do(api.OpStore, 0, 3, 3), Do(api.OpStore, 0, 4, 4), Const(2, 0), Do(api.OpLoad, 2, 0, 0), Show(2),
			Do(api.OpLoad, 0, 0, 2), Do(api.OpPEq, 2, 0, 1), Show(2), Do(api.OpStore, 0, 0, 2), Do(api.OpLoad, 0, 0, 2), Do(api.OpPEq, 2, 0, 1), Show(2), Do(api.OpLoad, 2, 0, 0), Show(2), Do(api.OpRecv, 2, 4, 5), Show(2), Ret()),
		sample("pointers", Exits(1, 0, 1, 0, 1, 0, 1), Kinds(Ptr(Box), Ptr(Box), Num, Line(Num), Line(Num)),
			Do(api.OpPEq, 2, 0, 1), Show(2), Do(api.OpNew, 0, Box), Do(api.OpPEq, 2, 0, 1), Show(2), Do(api.OpPEq, 2, 0, 0), Show(2), Do(api.OpNew, 1, Box), Do(api.OpPEq, 2, 0, 1), Show(2), Do(api.OpMove, 1, 0), Do(api.OpPEq, 2, 0, 1), Show(2),
			MakeLine(3, 2), Do(api.OpPEq, 2, 3, 4), Show(2), Do(api.OpMove, 4, 3), Do(api.OpPEq, 2, 3, 4), Show(2), Ret()),
		sample("one object by two pointers", Exits(6, 6), Kinds(Ptr(Box), Ptr(Box), Num),
			Do(api.OpNew, 0, Box), Do(api.OpMove, 1, 0), Const(2, 6), Do(api.OpStore, 0, 2, 0), Const(2, 0), Do(api.OpLoad, 2, 1, 0), Show(2), Do(api.OpNew, 0, Box), Do(api.OpLoad, 2, 1, 0), Show(2), Ret()),
	}
}

// elements make arrays, and read and write their elements.
func elements() []Sample {
	slots := Kinds(Num, Ptr(Nums), Num, Num)
	list := []Sample{
		sample("elements", Exits(0, 50, 60, 0, 3), Kinds(Num, Ptr(Nums), Num, Num, Ptr(Nums)),
			Const(0, 3), Do(api.OpNewArr, 1, Nums, 0), Do(api.OpNewArr, 4, Nums, 0), Do(api.OpLoadX, 3, 1, 2), Show(3),
			Const(2, 50), Const(3, 2), Do(api.OpStoreX, 1, 2, 3), Const(2, 60), Const(3, 0), Do(api.OpStoreX, 1, 2, 3), Const(3, 2), Do(api.OpLoadX, 2, 1, 3), Show(2), Const(3, 0), Do(api.OpLoadX, 2, 1, 3), Show(2), Do(api.OpLoadX, 2, 4, 3), Show(2), Do(api.OpLen, 2, 1), Show(2), Ret()),
		sample("elements of pointers and channels", Exits(1, 1, 1, 1), Kinds(Num, Ptr(Nodes), Ptr(Node), Ptr(Node), Num, Ptr(Lines), Line(Num), Line(Num)),
			Const(0, 2), Do(api.OpNewArr, 1, Nodes, 0), Do(api.OpNewArr, 5, Lines, 0), Const(0, 1), Do(api.OpLoadX, 2, 1, 0), Do(api.OpPEq, 4, 2, 3), Show(4), Do(api.OpNew, 2, Node), Do(api.OpStoreX, 1, 2, 0), Do(api.OpLoadX, 3, 1, 0), Do(api.OpPEq, 4, 2, 3), Show(4),
			Do(api.OpLoadX, 6, 5, 0), Do(api.OpPEq, 4, 6, 7), Show(4), MakeLine(6, 1), Do(api.OpStoreX, 5, 6, 0), Do(api.OpLoadX, 7, 5, 0), Do(api.OpPEq, 4, 6, 7), Show(4), Ret()),
	}
	for _, n := range []int{0, 1, 63, api.MaxWords - 2, api.MaxWords - 1} {
		list = append(list, sample("newarr", Exits(n), slots, Const(0, n), Do(api.OpNewArr, 1, Nums, 0), Do(api.OpLen, 2, 1), Show(2), Ret()))
		for _, at := range []int{-1, n, Least, Greatest} {
			for _, ins := range []api.Ins{Do(api.OpLoadX, 2, 1, 0), Do(api.OpStoreX, 1, 2, 0)} {
				list = append(list, sample("no such element", Panics(api.PanicIndex), slots, Const(0, n), Do(api.OpNewArr, 1, Nums, 0), Const(0, at), ins, Ret()))
			}
		}
		if n > 0 {
			list = append(list, sample("the last element", Exits(8), slots, Const(0, n), Do(api.OpNewArr, 1, Nums, 0), Const(0, n-1), Const(2, 8), Do(api.OpStoreX, 1, 2, 0), Do(api.OpLoadX, 3, 1, 0), Show(3), Ret()))
		}
	}
	for _, n := range []int{-1, Least, api.MaxWords, Greatest} {
		list = append(list, sample("newarr", Panics(api.PanicIndex), slots, Const(0, n), Do(api.OpNewArr, 1, Nums, 0), Ret()))
	}
	return list
}

// nils ask for what a nil pointer, or a reference to nothing, leads to. That is told ahead of that there is no such element.
func nils() []Sample {
	var list []Sample
	for _, ins := range []api.Ins{
		Do(api.OpLoad, 0, 1, 0), Do(api.OpStore, 1, 0, 0), Do(api.OpLen, 0, 2), Do(api.OpLoadX, 0, 2, 3), Do(api.OpStoreX, 2, 0, 3), Do(api.OpClose, 4), Do(api.OpGetRef, 0, 5), Do(api.OpSetRef, 5, 0),
	} {
		list = append(list, sample("nil", Panics(api.PanicNil), Kinds(Num, Ptr(Box), Ptr(Nums), Num, Line(Num), Ref), Const(3, -1), ins, Ret()))
	}
	return list
}

// references read and write slots of their own frame and of others.
func references() []Sample {
	return []Sample{
		sample("references to slots of their own frame", Exits(5, 6, 9, 4, 4), Kinds(Num, Num, Ref, Ref),
			Const(0, 5), Do(api.OpAddr, 2, 0), Do(api.OpGetRef, 1, 2), Show(1), Const(0, 6), Do(api.OpGetRef, 1, 2), Show(1), Const(1, 9), Do(api.OpSetRef, 2, 1), Show(0),
			Do(api.OpAddr, 3, 1), Do(api.OpMove, 2, 3), Const(1, 4), Do(api.OpGetRef, 0, 2), Show(0), Do(api.OpGetRef, 1, 3), Show(1), Ret()),
		{"references to slots of frames below", Program(
			Fun(0, Kinds(Num, Ref, Num, Num), Const(0, 1), Const(2, 2), Do(api.OpAddr, 1, 2), With(api.OpCall, 1, 1), Show(0), Show(2), Show(3), Ret()),
			Fun(1, Kinds(Ref, Num, Num, Ref), Const(1, 10), Do(api.OpAddr, 3, 1), With(api.OpCall, 2, 0, 3), Show(1), Show(2), Do(api.OpGetRef, 1, 0), Show(1), Ret()),
			Fun(2, Kinds(Ref, Ref, Num, Ref), Const(2, 100), Do(api.OpAddr, 3, 2), With(api.OpCall, 3, 3, 1, 0), Show(2), Ret()),
			Fun(3, Kinds(Ref, Ref, Ref, Num, Num),
				Do(api.OpGetRef, 3, 0), Show(3), Do(api.OpGetRef, 4, 1), Show(4), Do(api.OpAdd, 3, 3, 4), Do(api.OpGetRef, 4, 2), Show(4), Do(api.OpAdd, 3, 3, 4), Do(api.OpSetRef, 0, 3), Do(api.OpSetRef, 1, 4), Do(api.OpSetRef, 2, 3), Ret())),
			Exits(100, 10, 2, 112, 2, 0, 112, 1, 112, 0)},
		{"a reference to nothing that is handed on", Program(Fun(0, Kinds(Ref), With(api.OpCall, 1, 0), Ret()), Fun(1, Kinds(Ref, Num), Do(api.OpGetRef, 1, 0), Ret())), Panics(api.PanicNil)},
		{"a result is written over what a reference has written", Program(
			Fun(0, Kinds(Num, Ref), Const(0, 3), Do(api.OpAddr, 1, 0), With(api.OpCall, 1, 1, 0), Show(0), Ret()),
			Gives(1, Kinds(Ref, Num), Kinds(Num), Do(api.OpGetRef, 1, 0), Show(1), Const(1, 5), Do(api.OpSetRef, 0, 1), Do(api.OpGetRef, 1, 0), Show(1), Const(1, 6), Ret(1))), Exits(3, 5, 6)},
	}
}

// wide are so many slots that are ints, behind others.
func wide(first ...api.Kind) []api.Kind {
	slots := Kinds(first...)
	for len(slots) < api.MaxSlots {
		slots = append(slots, Num)
	}
	return slots
}

// deep go down through frames of all slots that there may be: each has a reference to the first frame's slot, one to a slot of the frame below, an object that stands in an array, and a channel, whose values are added up when all frames are there; and each prints a slot of its own when they go.
func deep() []Sample {
	var list []Sample
	for _, frames := range []int{2, 3, 4, 5, 9, 17, 33, api.MaxDepth} {
		var left []int
		for n := 1; n < frames; n++ {
			left = append(left, n)
		}
		last := frames - 1
		list = append(list, Sample{"deep calls", Program(
			Fun(0, wide(Num, Num, Ref, Ref, Ptr(Nodes), Line(Num), Ptr(Node)),
				Const(7, 1), Do(api.OpNewArr, 4, Nodes, 7), Do(api.OpNew, 6, Node), Const(7, 0), Do(api.OpStoreX, 4, 6, 7), Do(api.OpSet, GNode, 6), MakeLine(5, 1), Do(api.OpSend, 5, 7),
				Do(api.OpAddr, 2, 31), Do(api.OpAddr, 3, 0), Const(1, last), With(api.OpCall, 1, 1, 0, 2, 3, 4, 5), Show(31), Show(0), Do(api.OpRecv, 7, 5, 8), Show(7), Do(api.OpLoad, 7, 6, 0), Show(7), Ret()),
			Fun(6, wide(Num, Num, Ref, Ref, Ptr(Nodes), Line(Num), Ptr(Node), Ptr(Node), Ref),
				// 1 more in the first frame's last slot, in the object by the array, and in the channel; the number of this frame in the slot below.
				Const(9, 1), Do(api.OpGetRef, 10, 2), Do(api.OpAdd, 10, 10, 9), Do(api.OpSetRef, 2, 10), Do(api.OpSetRef, 3, 0),
				Const(11, 0), Do(api.OpLoadX, 6, 4, 11), Do(api.OpLoad, 10, 6, 0), Do(api.OpAdd, 10, 10, 9), Do(api.OpGet, 7, GNode), Do(api.OpStore, 7, 10, 0),
				Do(api.OpRecv, 10, 5, 12), Do(api.OpAdd, 10, 10, 9), Do(api.OpSend, 5, 10),
				Const(31, 0), Do(api.OpAddr, 8, 31), Do(api.OpSub, 10, 0, 9), Do(api.OpJumpZ, 10, 19), With(api.OpCall, 1, 10, 1, 2, 8, 4, 5),
				Do(api.OpAdd, 31, 31, 9), Show(31), Ret())),
			Exits(append(left, last, last, last, last)...)})
	}
	return list
}
