package ideal

import "treadle/api"

// doObject makes an object, or reads or writes one.
func (t turn) doObject() int {
	switch t.Op {
	case api.OpNew:
		t.set(t.A, t.makeObject(t.B, 0))
	case api.OpNewArr:
		return t.makeArray()
	case api.OpLen:
		return t.length()
	case api.OpLoad:
		return t.load(t.C)
	case api.OpLoadX:
		return t.load(int(t.get(t.C)))
	case api.OpStore:
		return t.put(t.C)
	case api.OpStoreX:
		return t.put(int(t.get(t.C)))
	}
	return fine
}

// makeArray makes an array, if its elements, with one word more, go into an object.
func (t turn) makeArray() int {
	elements := int(t.get(t.C))
	if elements < 0 || elements > api.MaxWords-1 {
		return api.PanicIndex
	}
	t.set(t.A, t.makeObject(t.B, elements))
	return fine
}

// length counts an array's elements.
func (t turn) length() int {
	array := t.get(t.B)
	if array == 0 {
		return api.PanicNil
	}
	t.set(t.A, uint64(len(t.things[array].words)))
	return fine
}

// within is a word of the object to which a slot leads.
func (t turn) within(slot, at int) (*uint64, int) {
	object := t.get(slot)
	if object == 0 {
		return nil, api.PanicNil
	}
	words := t.things[object].words
	if at < 0 || at >= len(words) {
		return nil, api.PanicIndex
	}
	return &words[at], fine
}

// load reads a word of an object.
func (t turn) load(at int) int {
	word, number := t.within(t.B, at)
	if number == fine {
		t.set(t.A, *word)
	}
	return number
}

// put writes a word of an object.
func (t turn) put(at int) int {
	word, number := t.within(t.A, at)
	if number == fine {
		*word = t.get(t.B)
	}
	return number
}
