package ideal

import (
	"treadle/api"
	"treadle/chans"
	"treadle/verify"
)

// leastRoom is how many words are made ahead of the first look for what can't be reached any more.
const leastRoom = 1 << 16

// thing is an object or a channel.
type thing struct {
	kind    api.Kind    // of what leads to it
	size    uint64      // its words, as Reach counts them
	words   []uint64    // an object's fields, or elements
	channel *chans.Chan // nil of an object
}

// store holds what the program has made, by numbers above 0: by these, pointers and channels are words.
type store struct {
	things map[uint64]*thing
	last   uint64 // the number that was given last
	room   uint64 // how many words may be made ahead of the next look for what can't be reached
}

// newStore is a store without things.
func newStore() store {
	return store{things: map[uint64]*thing{}, room: leastRoom}
}

// add adds a thing that was made, and answers its number.
func (d *Ideal) add(made *thing) uint64 {
	if d.room < made.size {
		d.collect()
	}
	d.room -= min(d.room, made.size)
	d.last++
	d.things[d.last] = made
	return d.last
}

// collect lets go what can't be reached any more. As many words as are left may be made ahead of the next time, so that looking takes no longer than making.
func (d *Ideal) collect() {
	d.things = d.reached()
	d.room = max(leastRoom, size(d.things))
}

// size is how many words things have.
func size(things map[uint64]*thing) uint64 {
	words := uint64(0)
	for _, t := range things {
		words += t.size
	}
	return words
}

// makeObject makes an object of a type, or an array of so many elements, and answers its number.
func (d *Ideal) makeObject(number, elements int) uint64 {
	made := &thing{kind: api.Ptr + api.Kind(number)}
	if t := d.program.Types[number]; t.Array {
		made.words = make([]uint64, elements)
		made.size = uint64(elements) + 1
	} else {
		made.words = make([]uint64, len(t.Fields))
		made.size = uint64(len(t.Fields))
	}
	return d.add(made)
}

// makeChannel makes a channel of a kind, of so many places, and answers its number.
func (d *Ideal) makeChannel(kind api.Kind, places int) uint64 {
	// The program was found right: there are not too many places.
	channel, _ := chans.New(places)
	return d.add(&thing{kind: kind, size: uint64(places) + 2, channel: channel})
}

// Reach answers how many objects and channels can be reached from globals and goroutines, and how many words they have.
func (d *Ideal) Reach() (int, uint64) {
	if d == nil {
		return 0, 0
	}
	things := d.reached()
	return len(things), size(things)
}

// reached are the things that can be reached, by their numbers.
func (d *Ideal) reached() map[uint64]*thing {
	things := map[uint64]*thing{}
	var rest []*thing
	found := func(k api.Kind, w uint64) {
		if !verify.IsRef(k) || w == 0 || things[w] != nil {
			return
		}
		things[w] = d.things[w]
		rest = append(rest, d.things[w])
	}
	d.eachRoot(found)
	for len(rest) > 0 {
		last := len(rest) - 1
		t := rest[last]
		rest = rest[:last]
		d.eachWithin(t, found)
	}
	return things
}

// each tells words with their kinds.
func each(kinds []api.Kind, words []uint64, found func(k api.Kind, w uint64)) {
	for i, w := range words {
		found(kinds[i], w)
	}
}

// eachRoot tells the words from which things are reached.
func (d *Ideal) eachRoot(found func(k api.Kind, w uint64)) {
	each(d.program.Globals, d.globals, found)
	for _, g := range d.gs {
		for _, f := range g.frames {
			each(f.Slots, f.slots, found)
			each(f.Results, f.results, found)
			for _, c := range f.putOff {
				each(c.Slots, c.arguments, found)
			}
		}
	}
}

// eachWithin tells the words that stand in a thing.
func (d *Ideal) eachWithin(t *thing, found func(k api.Kind, w uint64)) {
	if t.channel != nil {
		for _, w := range t.channel.Values() {
			found(t.kind-api.Chan, w)
		}
		return
	}
	made := d.program.Types[t.kind-api.Ptr]
	if !made.Array {
		each(made.Fields, t.words, found)
		return
	}
	for _, w := range t.words {
		found(made.Fields[0], w)
	}
}
