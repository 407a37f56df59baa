package cell_test

import (
	"maps"
	"slices"
	"testing"

	"treadle/api"
	"treadle/cell"
)

// kind is a class: its cells' words, and the pages of its blocks.
type kind struct{ words, pages int }

// kinds are the classes, worked out by hand.
func kinds() []kind {
	return []kind{
		{1, 1}, {2, 1}, {3, 1}, {4, 1}, {5, 1}, {6, 1}, {8, 1}, {10, 1},
		{12, 1}, {16, 1}, {20, 1}, {24, 2}, {32, 1}, {40, 2}, {48, 3}, {64, 1},
	}
}

// nobody holds a room that no processor holds.
const nobody = -1

// room is a span: cells of so many words, or none, if words is 0.
type room struct {
	base, pages, words int
	great              bool
	holder             int
}

// cells are the places at which the room's cells begin.
func (r *room) cells() []int {
	var list []int
	first := r.base * api.PageWords
	for at := first; r.words > 0 && at+r.words <= first+r.pages*api.PageWords; at += r.words {
		list = append(list, at)
	}
	return list
}

// pair is a room for cells beside a model of it: a list of spans, and of the used cells' first words.
type pair struct {
	t     testing.TB
	c     *cell.Cells
	n     int
	procs int
	rooms []*room
	used  map[int]bool
}

func newPair(t testing.TB, n, procs int) *pair {
	t.Helper()
	return &pair{t: t, c: made(t, n, procs), n: n, procs: procs, used: map[int]bool{}}
}

// roomOf is the span in which a page lies, or nil.
func (p *pair) roomOf(page int) *room {
	for _, r := range p.rooms {
		if page >= r.base && page-r.base < r.pages {
			return r
		}
	}
	return nil
}

// lay makes a span of the first row of so many free pages; nil, if there is none.
func (p *pair) lay(pages, words int) *room {
	follow := 0
	for page := range p.n {
		follow++
		if p.roomOf(page) != nil {
			follow = 0
		}
		if follow == pages {
			r := &room{base: page - pages + 1, pages: pages, words: words, holder: nobody}
			p.rooms = append(p.rooms, r)
			slices.SortFunc(p.rooms, func(a, b *room) int { return a.base - b.base })
			return r
		}
	}
	return nil
}

// open is the place of a room's first free cell, or -1.
func (p *pair) open(r *room) int {
	for _, at := range r.cells() {
		if !p.used[at] {
			return at
		}
	}
	return -1
}

// isEmpty tells whether a room is for cells, and none of them is used.
func (p *pair) isEmpty(r *room) bool {
	for _, at := range r.cells() {
		if p.used[at] {
			return false
		}
	}
	return r.words > 0
}

// giveBack takes away the rooms that have no used cell and that nobody holds.
func (p *pair) giveBack() {
	p.rooms = slices.DeleteFunc(p.rooms, func(r *room) bool { return r.holder == nobody && p.isEmpty(r) })
}

// heldBy is the room of so many words' cells that a processor holds, or nil.
func (p *pair) heldBy(proc, words int) *room {
	for _, r := range p.rooms {
		if r.holder == proc && r.words == words {
			return r
		}
	}
	return nil
}

// roomFor is a room with a free cell for so many words: of a great cell, or one that the processor holds from then on.
func (p *pair) roomFor(proc, words int) *room {
	if words > api.MaxSmall {
		pages := 1
		for pages*api.PageWords < words {
			pages++
		}
		r := p.lay(pages, pages*api.PageWords)
		if r != nil {
			r.great = true
		}
		return r
	}
	k := kinds()[slices.IndexFunc(kinds(), func(k kind) bool { return k.words >= words })]
	r := p.heldBy(proc, k.words)
	if r != nil && p.open(r) >= 0 {
		return r
	}
	if r != nil {
		r.holder = nobody
	}
	for _, r := range p.rooms {
		if !r.great && r.words == k.words && r.holder == nobody && p.open(r) >= 0 {
			r.holder = proc
			return r
		}
	}
	r = p.lay(k.pages, k.words)
	if r != nil {
		r.holder = proc
	}
	return r
}

// allocModel is what the model answers to Alloc.
func (p *pair) allocModel(proc, words int) (int, api.Errno) {
	if proc < 0 || proc >= p.procs || words < 1 {
		return 0, api.ErrArg
	}
	if words > api.MaxWords {
		return 0, api.ErrLong
	}
	r := p.roomFor(proc, words)
	if r == nil {
		return 0, api.ErrFull
	}
	at := p.open(r)
	p.used[at] = true
	return at, api.OK
}

// found is what Find answers.
type found struct {
	at, words int
	is        bool
}

// cells are what Find is to answer to each word, and the sum of the used cells' words.
func (p *pair) cells() ([]found, int) {
	list, sum := make([]found, p.n*api.PageWords), 0
	for _, r := range p.rooms {
		for _, at := range r.cells() {
			if !p.used[at] {
				continue
			}
			sum += r.words
			for i := range r.words {
				list[at+i] = found{at, r.words, true}
			}
		}
	}
	return list, sum
}

func (p *pair) alloc(proc, words int) {
	p.t.Helper()
	at, e := p.allocModel(proc, words)
	if got, f := p.c.Alloc(proc, words); got != at || f != e {
		p.t.Errorf("Alloc(%d, %d): %d, %d, want %d, %d", proc, words, got, f, at, e)
	}
	p.tellAll()
}

func (p *pair) free(addr int) {
	p.t.Helper()
	e := api.ErrNone
	if p.used[addr] {
		e = api.OK
	}
	delete(p.used, addr)
	p.giveBack()
	want(p.t, "Free", p.c.Free(addr), e)
	p.tellAll()
}

func (p *pair) flush(proc int) {
	p.t.Helper()
	e := api.ErrArg
	if proc >= 0 && proc < p.procs {
		e = api.OK
		for _, r := range p.rooms {
			if r.holder == proc {
				r.holder = nobody
			}
		}
	}
	p.giveBack()
	want(p.t, "Flush", p.c.Flush(proc), e)
	p.tellAll()
}

func (p *pair) pages(n int) {
	p.t.Helper()
	base, e := 0, api.ErrArg
	if n >= 1 {
		e = api.ErrFull
		if r := p.lay(n, 0); r != nil {
			base, e = r.base, api.OK
		}
	}
	if got, f := p.c.Pages(n); got != base || f != e {
		p.t.Errorf("Pages(%d): %d, %d, want %d, %d", n, got, f, base, e)
	}
	p.tellAll()
}

func (p *pair) give(base int) {
	p.t.Helper()
	e := api.ErrNone
	if r := p.roomOf(base); r != nil && r.base == base && r.words == 0 {
		e = api.OK
		p.rooms = slices.DeleteFunc(p.rooms, func(x *room) bool { return x == r })
	}
	want(p.t, "Give", p.c.Give(base), e)
	p.tellAll()
}

// tellAll holds all that is told against the model, of places and pages that there aren't, too.
func (p *pair) tellAll() {
	p.t.Helper()
	free := 0
	for page := -2; page < p.n+2; page++ {
		r := p.roomOf(page)
		if got := p.c.Used(page); got != (r != nil) {
			p.t.Errorf("Used(%d): %v", page, got)
		}
		if r == nil && page >= 0 && page < p.n {
			free++
		}
	}
	list, sum := p.cells()
	for addr := -api.PageWords; addr < len(list)+api.PageWords; addr++ {
		f := found{}
		if addr >= 0 && addr < len(list) {
			f = list[addr]
		}
		finds(p.t, p.c, addr, f)
	}
	counts(p.t, p.c, len(p.used), sum, free)
}

// places are the used cells' first words, rising.
func (p *pair) places() []int {
	return slices.Sorted(maps.Keys(p.used))
}
