package scav_test

import (
	"testing"

	"treadle/api"
	"treadle/scav"
)

// pair is a map of pages beside a model of it, in which each page has two bools and is looked at by itself.
type pair struct {
	t      testing.TB
	s      *scav.Scav
	used   []bool
	backed []bool // it isn't given back
}

// newPair is a pair of n pages, the page k used, kept or given back as the digit k of setting is 2, 1 or 0.
func newPair(t testing.TB, n, setting int) *pair {
	t.Helper()
	p := &pair{t: t, s: made(t, n), used: make([]bool, n), backed: make([]bool, n)}
	for at := range n {
		if setting%3 > 0 {
			p.use(at, 1)
		}
		if setting%3 == 1 {
			p.free(at, 1)
		}
		setting /= 3
	}
	return p
}

// fits tells whether there are these pages.
func (p *pair) fits(base, n int) bool {
	return n >= 1 && n <= len(p.used) && base >= 0 && base < len(p.used) && base+n <= len(p.used)
}

// all tells whether all these pages are used, or all are free.
func (p *pair) all(base, n int, used bool) bool {
	for at := base; at < base+n; at++ {
		if p.used[at] != used {
			return false
		}
	}
	return true
}

func (p *pair) use(base, n int) {
	p.t.Helper()
	back, e := 0, api.OK
	switch {
	case !p.fits(base, n):
		e = api.ErrArg
	case !p.all(base, n, false):
		e = api.ErrState
	default:
		for at := base; at < base+n; at++ {
			if !p.backed[at] {
				back++
			}
			p.used[at], p.backed[at] = true, true
		}
	}
	if got, f := p.s.Use(base, n); got != back || f != e {
		p.t.Errorf("Use(%d, %d): %d, %d, want %d, %d", base, n, got, f, back, e)
	}
	p.tellCounts()
}

func (p *pair) free(base, n int) {
	p.t.Helper()
	e := api.OK
	switch {
	case !p.fits(base, n):
		e = api.ErrArg
	case !p.all(base, n, true):
		e = api.ErrState
	default:
		for at := base; at < base+n; at++ {
			p.used[at] = false
		}
	}
	want(p.t, "Free", p.s.Free(base, n), e)
	p.tellCounts()
}

func (p *pair) give(n int) {
	p.t.Helper()
	var list []int
	for at := range p.used {
		if !p.used[at] && p.backed[at] {
			list = append([]int{at}, list...)
		}
	}
	if n < 0 {
		n = 0
	}
	if n < len(list) {
		list = list[:n]
	}
	for _, at := range list {
		p.backed[at] = false
	}
	gives(p.t, p.s, n, list...)
	p.tellCounts()
}

// tellCounts holds the counts against the model's.
func (p *pair) tellCounts() {
	p.t.Helper()
	used, kept, back := 0, 0, 0
	for at := range p.used {
		switch {
		case p.used[at]:
			used++
		case p.backed[at]:
			kept++
		default:
			back++
		}
	}
	counts(p.t, p.s, used, kept, back)
}

// drain tells each page's state: by using the free ones, one by one, and by freeing all and giving them back.
func (p *pair) drain() {
	p.t.Helper()
	for at := range p.used {
		p.use(at, 1)
	}
	p.free(0, len(p.used))
	p.give(len(p.used))
}

// act does one of three calls.
func (p *pair) act(call, x, y int) {
	p.t.Helper()
	switch call {
	case 0:
		p.use(x, y)
	case 1:
		p.free(x, y)
	case 2:
		p.give(x)
	}
}
