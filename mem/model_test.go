package mem_test

import (
	"testing"

	"treadle/api"
	"treadle/mem"
)

// The calls on rows of pages.
const (
	mapPages = iota
	unmapPages
	releasePages
)

// pair is a memory of three pages beside a model of it: its pages' states and its words, each word looked at by itself.
type pair struct {
	t      testing.TB
	m      *mem.Memory
	states [3]int
	words  [3 * pw]uint64
}

// newPair is a pair whose pages' states are the digits of setting; words of mapped pages are unlike one another.
func newPair(t testing.TB, setting int) *pair {
	t.Helper()
	p := &pair{t: t, m: made(t, 3)}
	for at := range 3 {
		s := setting % 3
		setting /= 3
		if s == 0 {
			continue
		}
		p.pagesCall(mapPages, at, 1)
		for addr := at * pw; addr < at*pw+pw; addr++ {
			p.words[addr] = uint64(addr) + 100
			want(t, "Store", p.m.Store(addr, p.words[addr]), api.OK)
		}
		if s == 2 {
			p.pagesCall(releasePages, at, 1)
		}
	}
	return p
}

// has tells whether the model has a word.
func (p *pair) has(addr int) bool {
	return addr >= 0 && addr < 3*pw && p.states[addr/pw] != 0
}

// touch maps the page of a word.
func (p *pair) touch(addr int) {
	if p.states[addr/pw] == 2 {
		p.enter(addr/pw, 1)
	}
}

// enter brings a page into a state, its words lost.
func (p *pair) enter(at, s int) {
	p.states[at] = s
	for addr := at * pw; addr < at*pw+pw; addr++ {
		p.words[addr] = 0
	}
}

// pagesModel is what the model answers to a call on a row of pages.
func (p *pair) pagesModel(call, base, n int) api.Errno {
	if n < 1 || base < 0 || n > 3 || base > 2 || base+n > 3 {
		return api.ErrArg
	}
	for at := base; at < base+n; at++ {
		s := p.states[at]
		if call == mapPages && s != 0 || call == unmapPages && s == 0 || call == releasePages && s != 1 {
			return api.ErrState
		}
	}
	for at := base; at < base+n; at++ {
		p.enter(at, map[int]int{mapPages: 1, unmapPages: 0, releasePages: 2}[call])
	}
	return api.OK
}

func (p *pair) pagesCall(call, base, n int) {
	p.t.Helper()
	before := p.states
	calls := []func(base, n int) api.Errno{p.m.Map, p.m.Unmap, p.m.Release}
	got, e := calls[call](base, n), p.pagesModel(call, base, n)
	if got != e {
		p.t.Errorf("call %d of %d, %d, in the states %v: %d, want %d", call, base, n, before, got, e)
	}
	p.tellStates()
}

func (p *pair) load(addr int) {
	p.t.Helper()
	before := p.states
	w, e := uint64(0), api.ErrFault
	if p.has(addr) {
		p.touch(addr)
		w, e = p.words[addr], api.OK
	}
	if got, f := p.m.Load(addr); got != w || f != e {
		p.t.Errorf("Load(%d) in the states %v: %d, %d, want %d, %d", addr, before, got, f, w, e)
	}
	p.tellStates()
}

func (p *pair) store(addr int, w uint64) {
	p.t.Helper()
	before := p.states
	e := api.ErrFault
	if p.has(addr) {
		p.touch(addr)
		p.words[addr], e = w, api.OK
	}
	if got := p.m.Store(addr, w); got != e {
		p.t.Errorf("Store(%d) in the states %v: %d, want %d", addr, before, got, e)
	}
	p.tellStates()
}

func (p *pair) cas(addr int, old, w uint64) {
	p.t.Helper()
	before := p.states
	done, e := false, api.ErrFault
	if p.has(addr) {
		p.touch(addr)
		done, e = p.words[addr] == old, api.OK
		if done {
			p.words[addr] = w
		}
	}
	if got, f := p.m.Cas(addr, old, w); got != done || f != e {
		p.t.Errorf("Cas(%d, %d, %d) in the states %v: %v, %d, want %v, %d", addr, old, w, before, got, f, done, e)
	}
	p.tellStates()
}

// copyModel is what the model answers to a copy.
func (p *pair) copyModel(to, from, n int) api.Errno {
	if n < 0 {
		return api.ErrArg
	}
	for i := range n {
		if !p.has(from+i) || !p.has(to+i) {
			return api.ErrFault
		}
	}
	for i := range n {
		p.touch(from + i)
		p.touch(to + i)
	}
	was := p.words
	for i := range n {
		p.words[to+i] = was[from+i]
	}
	return api.OK
}

func (p *pair) copy(to, from, n int) {
	p.t.Helper()
	before := p.states
	e := p.copyModel(to, from, n)
	if got := p.m.Copy(to, from, n); got != e {
		p.t.Errorf("Copy(%d, %d, %d) in the states %v: %d, want %d", to, from, n, before, got, e)
	}
	p.tellStates()
}

func (p *pair) tellState(at int) {
	p.t.Helper()
	s := 0
	if at >= 0 && at < 3 {
		s = p.states[at]
	}
	if got := p.m.State(at); got != s {
		p.t.Errorf("State(%d): %d, want %d", at, got, s)
	}
}

func (p *pair) tellStates() {
	p.t.Helper()
	for at := -1; at <= 3; at++ {
		p.tellState(at)
	}
	states(p.t, p.m, p.states[:]...)
}

// tellAll holds the words of the mapped pages against the model's, too: those of others can't be told without mapping them.
func (p *pair) tellAll() {
	p.t.Helper()
	p.tellStates()
	for addr, w := range p.words {
		if p.states[addr/pw] == 1 {
			if got, e := p.m.Load(addr); got != w || e != api.OK {
				p.t.Errorf("Load(%d) in the states %v: %d, %d, want %d", addr, p.states, got, e, w)
			}
		}
	}
}

// act does one of eight calls.
func (p *pair) act(call, x, y, n int) {
	p.t.Helper()
	w := uint64(y) % 3
	switch call {
	case 0, 1, 2:
		p.pagesCall(call, x%4, n%4)
	case 3:
		p.load(x)
	case 4:
		p.store(x, w)
	case 5:
		p.cas(x, w, w+1)
	case 6:
		p.copy(x, y, n)
	case 7:
		p.tellState(x)
		p.pagesCall(n&1, x, y)
	}
}
