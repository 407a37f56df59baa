package heap_test

import (
	"maps"
	"math/rand"
	"slices"
	"testing"

	"treadle/api"
	"treadle/heap"
)

// wild changes a heap as no program can: it names whatever there is, also what can't be reached. The model knows what may not be lost for all that: what can be reached, with its words.
type wild struct {
	t      *testing.T
	h      *heap.Heap
	procs  int
	choose chooser
	things map[int]*thing
	roots  [heap.Roots]int
	hand   []int
}

// reached is what can be reached from the roots.
func (w *wild) reached() map[int]*thing {
	found := map[int]*thing{}
	rest := slices.Concat(w.roots[:], w.hand)
	for len(rest) > 0 {
		p := rest[len(rest)-1]
		rest = rest[:len(rest)-1]
		x := w.things[p]
		if x == nil || found[p] != nil {
			continue // what a function gives may be no object
		}
		found[p] = x
		rest = append(rest, x.given...)
		for i, leads := range x.shape {
			if leads {
				rest = append(rest, int(x.words[i]))
			}
		}
	}
	return found
}

// any is an object, or 0.
func (w *wild) any() int {
	if w.choose(4) == 0 {
		return 0
	}
	return w.one()
}

// one is an object; 0: there is none.
func (w *wild) one() int {
	all := slices.Sorted(maps.Keys(w.things))
	if len(all) == 0 {
		return 0
	}
	return all[w.choose(len(all))]
}

// list are some objects.
func (w *wild) list() []int {
	var list []int
	for range w.choose(4) {
		list = append(list, w.any())
	}
	return list
}

// act does something; what could be reached ahead of it and can be reached behind it must be there.
func (w *wild) act() {
	before := w.reached()
	fresh, at := (*thing)(nil), 0
	switch p := w.one(); w.choose(12) {
	case 0, 1, 2:
		s := make([]bool, w.choose(6)+1)
		for i := range s {
			s[i] = w.choose(3) > 0
		}
		q, e := w.h.Alloc(w.choose(w.procs), s)
		if e == api.OK {
			fresh, at = &thing{shape: s, words: make([]uint64, len(s))}, q
		}
	case 3, 4, 5:
		w.put(p, w.any())
	case 6:
		i, q := w.choose(heap.Roots), w.any()
		w.roots[i] = q
		want(w.t, "Root", w.h.Root(i, q), api.OK)
	case 7:
		if p != 0 {
			given := w.list()
			w.things[p].given = given
			w.h.Refs(p, gives(given...))
		}
	case 8:
		w.hand = w.list()
		w.h.More(gives(w.hand...))
	case 9:
		w.h.Start()
	case 10:
		work(w.h, w.choose(6))
	case 11:
		switch w.choose(20) {
		case 0:
			w.h.Full()
		case 1:
			w.h.Shade(p)
		default:
			w.h.Work()
		}
	}
	w.see(before, fresh, at)
}

// put writes a word of an object.
func (w *wild) put(p, to int) {
	if p == 0 {
		return
	}
	x := w.things[p]
	i := w.choose(len(x.shape))
	n := uint64(w.choose(1000))
	if x.shape[i] {
		n = uint64(to)
	}
	x.words[i] = n
	want(w.t, "Put", w.h.Put(p, i, n), api.OK)
}

// see takes what was freed from the model, if it may be, and what was made into it; then it looks at all that there is.
func (w *wild) see(before map[int]*thing, fresh *thing, at int) {
	for p := range w.things {
		if w.h.Has(p) && p != at {
			continue
		}
		if before[p] != nil {
			w.t.Fatalf("%d was freed, and could be reached", p)
		}
		delete(w.things, p)
	}
	if at != 0 {
		w.things[at] = fresh
	}
	for p, x := range w.things {
		for i, n := range x.words {
			got, e := w.h.Get(p, i)
			if before[p] == nil && x.shape[i] && got != n {
				// Where an object leads that can't be reached may be gone.
				x.words[i] = got
				n = got
			}
			if got != n || e != api.OK {
				w.t.Fatalf("Get(%d, %d): %d, %d, want %d", p, i, got, e, n)
			}
			if x.shape[i] && got != 0 && w.things[int(got)] == nil {
				w.t.Fatalf("the pointer %d of %d leads to %d, which is no object", i, p, got)
			}
		}
	}
	if s := w.h.Stats(); s.Objects != len(w.things) || s.Words != words(w.things) {
		w.t.Fatalf("%d objects of %d words, want %d of %d", s.Objects, s.Words, len(w.things), words(w.things))
	}
}

// walk does so many things; behind a Full there is what can be reached, and nothing else.
func (w *wild) walk(steps int) {
	for range steps {
		w.act()
	}
	left := w.reached()
	w.h.Full()
	w.see(left, nil, 0)
	if len(w.things) != len(left) {
		w.t.Fatalf("%d objects are left, %d can be reached", len(w.things), len(left))
	}
}

func newWild(t *testing.T, c api.Config, choose chooser) *wild {
	return &wild{t: t, h: made(t, c), procs: c.Procs, choose: choose, things: map[int]*thing{}}
}

func wildConfigs() []api.Config {
	return []api.Config{
		{Procs: 1, Pages: 200, Gogc: -1},
		{Procs: 2, Pages: 500, Gogc: 100},
		{Procs: 1, Pages: 100, Gogc: 0, Limit: 50},
		{Procs: 3, Pages: 12, Gogc: -1},
	}
}

func TestWildWalks(t *testing.T) {
	for _, c := range wildConfigs() {
		for seed := range int64(20) {
			newWild(t, c, rand.New(rand.NewSource(seed)).Intn).walk(1500)
		}
	}
}

func FuzzWild(f *testing.F) {
	random := rand.New(rand.NewSource(2))
	for i := range len(wildConfigs()) {
		text := make([]byte, 400)
		random.Read(text)
		f.Add(byte(i), text)
	}
	f.Fuzz(func(t *testing.T, at byte, text []byte) {
		c := wildConfigs()[int(at)%len(wildConfigs())]
		newWild(t, c, bytesChooser(text)).walk(min(len(text), 2000))
	})
}
