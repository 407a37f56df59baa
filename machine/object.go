package machine

import (
	"slices"

	"treadle/api"
	"treadle/verify"
)

// alloc makes an object of words of which those with true are pointers, for a processor, and answers its pointer.
func (m *Machine) alloc(p int, shape []bool) int {
	made, e := m.heap.Alloc(p, shape)
	if e != api.OK {
		panic(noMemory{})
	}
	// A channel that the heap has freed may have lain there.
	delete(m.channels, made)
	return made
}

// doObject makes an object, or reads or writes one.
func (t turn) doObject() int {
	switch t.Op {
	case api.OpNew:
		t.makeObject()
	case api.OpNewArr:
		return t.makeArray()
	case api.OpLen:
		return t.length()
	case api.OpLoad, api.OpLoadX:
		return t.load()
	case api.OpStore, api.OpStoreX:
		return t.put()
	}
	return fine
}

// makeObject makes an object of the type B.
func (t turn) makeObject() {
	var shape []bool
	for _, k := range t.program.Types[t.B].Fields {
		shape = append(shape, verify.IsRef(k))
	}
	t.set(t.A, uint64(t.alloc(t.p, shape)))
}

// makeArray makes an array, if its elements go into an object: they lie behind a word that tells how many they are.
func (t turn) makeArray() int {
	elements := int(t.get(t.C))
	if elements < 0 || elements > api.MaxWords-1 {
		return api.PanicIndex
	}
	element := verify.IsRef(t.program.Types[t.B].Fields[0])
	made := t.alloc(t.p, append([]bool{false}, slices.Repeat([]bool{element}, elements)...))
	t.heap.Put(made, 0, uint64(elements))
	t.set(t.A, uint64(made))
	return fine
}

// elements answers how many elements an array has.
func (m *Machine) elements(array int) int {
	n, _ := m.heap.Get(array, 0)
	return int(n)
}

// length counts an array's elements.
func (t turn) length() int {
	array := int(t.get(t.B))
	if array == 0 {
		return api.PanicNil
	}
	t.set(t.A, uint64(t.elements(array)))
	return fine
}

// find finds the word of which the instruction speaks, a field or an element: in the object to which a slot leads, and its place there.
func (t turn) find(slot int) (object, at, number int) {
	object = int(t.get(slot))
	if object == 0 {
		return 0, 0, api.PanicNil
	}
	if t.Op == api.OpLoad || t.Op == api.OpStore {
		return object, t.C, fine
	}
	at = int(t.get(t.C))
	if at < 0 || at >= t.elements(object) {
		return 0, 0, api.PanicIndex
	}
	return object, 1 + at, fine
}

// load reads a word of an object.
func (t turn) load() int {
	object, at, number := t.find(t.B)
	if number == fine {
		w, _ := t.heap.Get(object, at)
		t.set(t.A, w)
	}
	return number
}

// put writes a word of an object.
func (t turn) put() int {
	object, at, number := t.find(t.A)
	if number == fine {
		t.heap.Put(object, at, t.get(t.B))
	}
	return number
}
