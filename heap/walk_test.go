package heap_test

import (
	"maps"
	"math/rand"
	"slices"
	"testing"

	"treadle/api"
	"treadle/heap"
	"treadle/pacer"
)

// chooser answers numbers below n, by which all is chosen.
type chooser func(n int) int

// thing is an object as the model has it.
type thing struct {
	shape []bool
	words []uint64
	given []int // what its function gives
}

// walker changes a heap as a program does, which names only what it can reach, beside a model that knows each object: which there are, their words, when cycles begin, and what they keep.
type walker struct {
	t       *testing.T
	h       *heap.Heap
	config  api.Config
	choose  chooser
	pace    *pacer.Pacer
	things  map[int]*thing
	roots   [heap.Roots]int
	hand    []int // what More's function gives
	spans   []int // how many pages the spans of Pages have
	bases   []int // where they begin
	through uint64

	keep   map[int]*thing // what the cycle under way keeps: what could be reached when it began, and what was made since
	live   uint64         // the words of what could be reached then
	held   uint64         // how many pointers the roots held then
	most   uint64         // how great the heap may be when marking ends, if that has begun by itself
	pieces int            // how many pieces were done of the cycle under way
	limit  int            // how many there may be
}

func newWalker(t *testing.T, c api.Config, choose chooser) *walker {
	w := &walker{t: t, h: made(t, c), config: c, choose: choose, pace: pacer.New(c.Gogc, c.Limit), things: map[int]*thing{}}
	w.h.More(list(&w.hand))
	return w
}

// words are those of objects.
func words(things map[int]*thing) uint64 {
	n := uint64(0)
	for _, x := range things {
		n += uint64(len(x.words))
	}
	return n
}

// reached is what can be reached from the roots.
func (w *walker) reached() map[int]*thing {
	found := map[int]*thing{}
	rest := slices.Concat(w.roots[:], w.hand)
	for len(rest) > 0 {
		p := rest[len(rest)-1]
		rest = rest[:len(rest)-1]
		if p == 0 || found[p] != nil {
			continue
		}
		x := w.things[p]
		if x == nil {
			w.t.Fatalf("the model leads to %d, which is no object", p)
		}
		found[p] = x
		rest = append(rest, x.given...)
		for i, leads := range x.shape {
			if leads {
				rest = append(rest, int(x.words[i]))
			}
		}
	}
	return found
}

// holding is how many pointers that aren't 0 the roots hold.
func (w *walker) holding() uint64 {
	n := uint64(0)
	for _, p := range slices.Concat(w.roots[:], w.hand) {
		if p != 0 {
			n++
		}
	}
	return n
}

// one is an object that can be reached; 0: there is none.
func (w *walker) one() int {
	all := slices.Sorted(maps.Keys(w.reached()))
	if len(all) == 0 {
		return 0
	}
	return all[w.choose(len(all))]
}

// none or one is 0, or an object that can be reached.
func (w *walker) noneOrOne() int {
	if w.choose(3) == 0 {
		return 0
	}
	return w.one()
}

// begun tells the model that a cycle has begun.
func (w *walker) begun() {
	w.keep = w.reached()
	w.live, w.held = words(w.keep), w.holding()
	w.pace.Begin()
	w.most = 0
	w.pieces, w.limit = 0, 2*len(w.things)+3
}

// markingEnded tells it that marking has.
func (w *walker) markingEnded() {
	w.pace.End(w.live, w.held)
}

// ended tells it that a cycle has: what it doesn't keep is gone.
func (w *walker) ended() {
	w.gone(w.keep)
	w.keep = nil
}

// gone tells it that of all objects only these are left.
func (w *walker) gone(left map[int]*thing) {
	for p := range w.things {
		if left[p] == nil && w.h.Has(p) {
			w.t.Fatalf("%d couldn't be reached and is there yet", p)
		}
	}
	w.things = maps.Clone(left)
}

// freed tells the pacer what was freed.
func (w *walker) freed(before uint64) {
	if now := w.h.Stats().Words; now < before {
		w.pace.Free(before - now)
	}
}

// start begins a cycle, if none is under way.
func (w *walker) start() {
	if w.h.Stats().Phase != off {
		want(w.t, "Start", w.h.Start(), api.ErrState)
		return
	}
	w.begun()
	want(w.t, "Start", w.h.Start(), api.OK)
}

// work does a piece.
func (w *walker) work() {
	before := w.h.Stats()
	if did := w.h.Work(); did != (before.Phase != off) {
		w.t.Fatalf("in the phase %d Work: %v", before.Phase, did)
	}
	w.pieces++
	w.moved(before)
	if w.pieces > w.limit && before.Phase != off {
		w.t.Fatalf("a cycle has taken %d pieces", w.pieces)
	}
}

// moved tells the model what a piece has done.
func (w *walker) moved(before api.Stats) {
	after := w.h.Stats()
	w.freed(before.Words)
	if before.Phase == marking && after.Phase == sweeping {
		w.markingEnded()
	}
	if before.Phase == sweeping && after.Phase == off {
		w.ended()
	}
}

// full makes a Full.
func (w *walker) full() {
	before := w.h.Stats()
	w.h.Full()
	w.fullWasMade(before.Words)
	if s := w.h.Stats(); s.Phase != off || s.Cycles < before.Cycles+1 || s.Cycles > before.Cycles+2 || (s.Cycles == before.Cycles+2) != (before.Phase != off) {
		w.t.Fatalf("Full: %+v, and it was %+v", s, before)
	}
}

// fullWasMade tells the model that a Full was, ahead of which there were so many words.
func (w *walker) fullWasMade(before uint64) {
	left := w.reached()
	w.pace.Free(before - words(left))
	w.pace.End(words(left), w.holding())
	w.gone(left)
	w.keep = nil
}

// alloc makes an object, and mostly holds it somewhere.
func (w *walker) alloc(s []bool) {
	n := uint64(len(s))
	before := w.h.Stats()
	due := w.pace.Due() && before.Phase != marking
	reached := w.reached()
	w.through = 0
	p, e := w.h.Alloc(w.choose(w.config.Procs), s)
	through := w.through
	after := w.h.Stats()
	switch {
	case w.wasFull(before, after, due):
		left := maps.Clone(reached)
		w.dropFreshPlace(p, left)
		w.fullWasMade(before.Words)
	case due:
		if before.Phase == sweeping {
			w.dropFreshPlace(p, w.keep)
			w.pace.Free(before.Words - words(w.keep))
			w.ended()
		}
		w.begun()
		w.most = max(before.Goal, words(w.things))
		w.paid(p, before, after, n, through)
	case before.Phase == marking:
		w.paid(p, before, after, n, through)
	case before.Phase == sweeping:
		w.dropFreshPlace(p, w.keep)
		w.pace.Free(before.Words + n - after.Words)
		if after.Phase == off {
			w.ended()
		}
	default:
		if after.Phase != off || after.Cycles != before.Cycles {
			w.t.Fatalf("none is due, and Alloc begins a cycle: %+v, and it was %+v", after, before)
		}
	}
	if e != api.OK {
		w.errFull(p, e, len(reached))
		return
	}
	w.pace.Alloc(n)
	w.add(p, s)
}

// wasFull tells whether Alloc has made a Full.
func (w *walker) wasFull(before, after api.Stats, due bool) bool {
	cycles := after.Cycles - before.Cycles
	return after.Phase == off && (cycles > 1 || cycles == 1 && before.Phase == off && !due)
}

// dropFreshPlace takes what was freed from the model where the object lies that was made.
func (w *walker) dropFreshPlace(p int, left map[int]*thing) {
	if left[p] != nil {
		w.t.Fatalf("an object was made where there is one: %d", p)
	}
	delete(w.things, p)
}

// paid looks whether as much was gone through as is owed.
func (w *walker) paid(p int, before, after api.Stats, n, through uint64) {
	if owed := w.pace.Owes(n); after.Phase == marking && through < owed {
		w.t.Fatalf("%d words were gone through, owed are %d", through, owed)
	}
	if after.Phase == marking {
		return
	}
	w.markingEnded()
	if w.most > 0 && after.Words > w.most+2*api.MaxWords {
		w.t.Fatalf("%d words when marking ends, of %d", after.Words, w.most)
	}
	if after.Phase != sweeping {
		w.t.Fatalf("marking ends, and the phase is %d", after.Phase)
	}
}

// errFull looks whether there may be no room.
func (w *walker) errFull(p int, e api.Errno, reached int) {
	if p != 0 || e != api.ErrFull {
		w.t.Fatalf("Alloc: %d, %d", p, e)
	}
	if 64*(reached+len(w.spans)+16*w.config.Procs+1) <= w.config.Pages {
		w.t.Fatalf("Alloc: ErrFull, with %d objects and %d spans in %d pages", reached, len(w.spans), w.config.Pages)
	}
	if w.h.Stats().Phase != off {
		w.t.Fatal("ErrFull without a Full")
	}
}

// add adds an object that was made, and holds it somewhere, or lets it be lost.
func (w *walker) add(p int, s []bool) {
	if w.things[p] != nil {
		w.t.Fatalf("an object was made where there is one: %d", p)
	}
	x := &thing{shape: s, words: make([]uint64, len(s))}
	to := w.one()
	w.things[p] = x
	if w.keep != nil {
		w.keep[p] = x
	}
	for i := range s {
		if got, e := w.h.Get(p, i); got != 0 || e != api.OK {
			w.t.Fatalf("Get(%d, %d) of a new object: %d, %d", p, i, got, e)
		}
		if !s[i] {
			w.write(p, i, uint64(w.choose(1000)))
		}
	}
	w.refs(p)
	switch w.choose(5) {
	case 0:
		w.root(w.choose(heap.Roots), p)
	case 1:
		w.hand = append(w.hand, p)
	case 2, 3:
		if to == 0 || !w.putAny(to, p) {
			w.root(w.choose(heap.Roots), p)
		}
	}
}

// refs gives an object its function.
func (w *walker) refs(p int) {
	x := w.things[p]
	w.h.Refs(p, func(yield func(int) bool) {
		w.through += uint64(len(x.words))
		for _, q := range x.given {
			if !yield(q) {
				return
			}
		}
	})
}

// write writes a word.
func (w *walker) write(p, i int, n uint64) {
	w.things[p].words[i] = n
	if e := w.h.Put(p, i, n); e != api.OK {
		w.t.Fatalf("Put(%d, %d, %d): %d", p, i, n, e)
	}
}

// putAny lets a pointer of an object lead to what is told; false: it has no pointers.
func (w *walker) putAny(p, to int) bool {
	shape := w.things[p].shape
	first := w.choose(len(shape))
	for i := range shape {
		if at := (first + i) % len(shape); shape[at] {
			w.write(p, at, uint64(to))
			return true
		}
	}
	return false
}

// root lets a root lead somewhere.
func (w *walker) root(i, p int) {
	w.roots[i] = p
	if e := w.h.Root(i, p); e != api.OK {
		w.t.Fatalf("Root(%d, %d): %d", i, p, e)
	}
}

// give lets an object's function give something more, or something less, or other things.
func (w *walker) give() {
	p := w.one()
	if p == 0 {
		return
	}
	x := w.things[p]
	switch n := len(x.given); {
	case n == 0 || w.choose(3) == 0 && n < 10:
		x.given = append(x.given, w.noneOrOne())
	case w.choose(4) == 0:
		// A later function in the place of the earlier one, which gives what it gave.
		later := *x
		later.given = []int{w.noneOrOne()}
		w.things[p] = &later
		if w.keep != nil {
			w.keep[p] = &later
		}
		w.refs(p)
	default:
		at := w.choose(n)
		lost := x.given[at]
		x.given = slices.Delete(slices.Clone(x.given), at, at+1)
		w.h.Shade(lost)
	}
}

// take lets the hand hold something more, or something less.
func (w *walker) take() {
	n := len(w.hand)
	if n == 0 || w.choose(2) == 0 && n < 12 {
		w.hand = append(w.hand, w.noneOrOne())
		return
	}
	at := w.choose(n)
	lost := w.hand[at]
	w.hand = slices.Delete(w.hand, at, at+1)
	w.h.Shade(lost)
}

// span asks for pages, or gives such back.
func (w *walker) span() {
	if n := len(w.spans); n > 0 && w.choose(2) == 0 {
		at := w.choose(n)
		want(w.t, "Give", w.h.Give(w.bases[at]), api.OK)
		w.spans, w.bases = slices.Delete(w.spans, at, at+1), slices.Delete(w.bases, at, at+1)
		return
	}
	n := w.choose(12)
	before := w.h.Stats()
	base, e := w.h.Pages(n)
	if w.h.Stats().Cycles > before.Cycles {
		w.fullWasMade(before.Words)
	}
	switch {
	case n == 0 && e == api.ErrArg:
	case e == api.ErrFull && w.h.Stats().Cycles > before.Cycles:
	case n > 0 && e == api.OK:
		w.spans, w.bases = append(w.spans, n), append(w.bases, base)
		fresh(w.t, w.h, base, n)
	default:
		w.t.Fatalf("Pages(%d): %d, %d", n, base, e)
	}
}

// scavenge gives pages back.
func (w *walker) scavenge() {
	before := w.h.Stats()
	n := w.choose(20)
	given := w.h.Scavenge(n)
	if given > n || w.h.Stats().Mapped != before.Mapped-given {
		w.t.Fatalf("Scavenge(%d): %d, and Mapped %d, then %d", n, given, before.Mapped, w.h.Stats().Mapped)
	}
}

// shape is that of an object to be made.
func (w *walker) shape() []bool {
	n := w.choose(12) + 1
	if w.choose(10) == 0 {
		n = w.choose(api.MaxWords) + 1
	}
	s := make([]bool, n)
	for i := range min(n, 12) {
		s[i] = w.choose(2) == 0
	}
	return s
}

// act does something.
func (w *walker) act() {
	switch w.choose(16) {
	case 0, 1, 2, 3:
		w.alloc(w.shape())
	case 4, 5:
		if p := w.one(); p != 0 {
			w.putAny(p, w.noneOrOne())
		}
	case 6:
		w.root(w.choose(heap.Roots), w.noneOrOne())
	case 7:
		w.give()
	case 8:
		w.take()
	case 9:
		if p := w.one(); p != 0 && !w.things[p].shape[len(w.things[p].shape)-1] {
			w.write(p, len(w.things[p].shape)-1, uint64(w.choose(1<<16)))
		}
	case 10, 11, 12:
		w.work()
	case 13:
		w.start()
	case 14:
		w.span()
	case 15:
		if w.choose(6) == 0 {
			w.full()
		} else {
			w.scavenge()
		}
	}
}

// look holds all that there is to tell against the model.
func (w *walker) look() {
	s := w.h.Stats()
	heapWords, goal, _, _ := w.pace.Counts()
	if s.Goal != goal || s.Words != heapWords {
		w.t.Fatalf("Goal %d and %d words, want %d and %d", s.Goal, s.Words, goal, heapWords)
	}
	there := w.things
	if s.Phase == sweeping {
		there = w.keep
	}
	if s.Objects < len(there) || s.Objects > len(w.things) || s.Words < words(there) || s.Words > words(w.things) {
		w.t.Fatalf("in the phase %d %d objects and %d words, want %d to %d, %d to %d", s.Phase, s.Objects, s.Words, len(there), len(w.things), words(there), words(w.things))
	}
	for p := range w.reached() {
		if there[p] == nil {
			w.t.Fatalf("%d can be reached, and the model doesn't keep it", p)
		}
	}
	for p, x := range there {
		w.lookAt(p, x)
	}
}

// lookAt holds an object against the model.
func (w *walker) lookAt(p int, x *thing) {
	if !w.h.Has(p) || w.h.Len(p) != len(x.words) {
		w.t.Fatalf("Has(%d): %v, Len: %d, want %d", p, w.h.Has(p), w.h.Len(p), len(x.words))
	}
	for i, n := range x.words {
		if got, e := w.h.Get(p, i); got != n || e != api.OK {
			w.t.Fatalf("Get(%d, %d): %d, %d, want %d", p, i, got, e, n)
		}
	}
}

// walk does so many things.
func (w *walker) walk(steps int) {
	for n := range steps {
		w.act()
		if n%8 == 0 {
			w.look()
		}
	}
	w.full()
	w.look()
}

func configs() []api.Config {
	return []api.Config{
		{Procs: 1, Pages: 400, Gogc: -1},
		{Procs: 2, Pages: api.MaxPages, Gogc: 100},
		{Procs: 1, Pages: 1000, Gogc: 0},
		{Procs: 8, Pages: 300, Gogc: 100},
		{Procs: 3, Pages: 500, Gogc: 300, Limit: 4000},
		{Procs: 1, Pages: 40, Gogc: 50},
		{Procs: 1, Pages: 100, Gogc: -1, Limit: 1500},
		{Procs: 2, Pages: 30, Gogc: -1},
	}
}

func TestWalks(t *testing.T) {
	for _, c := range configs() {
		for seed := range int64(8) {
			newWalker(t, c, rand.New(rand.NewSource(seed)).Intn).walk(2500)
		}
	}
}

// bytesChooser chooses by bytes, and always 0 behind their end.
func bytesChooser(text []byte) chooser {
	next := func() int {
		if len(text) == 0 {
			return 0
		}
		b := text[0]
		text = text[1:]
		return int(b)
	}
	return func(n int) int {
		if n > 256 {
			return (next()<<8 | next()) % n
		}
		return next() % n
	}
}

func FuzzWalk(f *testing.F) {
	random := rand.New(rand.NewSource(1))
	for i := range len(configs()) {
		text := make([]byte, 400)
		random.Read(text)
		f.Add(byte(i), text)
	}
	f.Fuzz(func(t *testing.T, at byte, text []byte) {
		c := configs()[int(at)%len(configs())]
		newWalker(t, c, bytesChooser(text)).walk(min(len(text), 2000))
	})
}
