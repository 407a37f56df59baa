package pages_test

import (
	"slices"
	"testing"

	"treadle/api"
	"treadle/pages"
)

// row is a row of free pages: where it begins, and how long it is.
type row struct{ base, length int }

// pair is a map of pages beside a model of it, in which each page is looked at by itself.
type pair struct {
	t    testing.TB
	p    *pages.Pages
	used []bool
}

// newPair is a pair of n pages, the page k used if the bit k of setting is 1.
func newPair(t testing.TB, n int, setting uint) *pair {
	t.Helper()
	p := &pair{t: t, p: made(t, n), used: make([]bool, n)}
	for at := range n {
		if setting>>at&1 == 1 {
			p.take(at, 1)
		}
	}
	return p
}

// isFree tells whether there is a page, and it is free.
func (p *pair) isFree(at int) bool {
	return at >= 0 && at < len(p.used) && !p.used[at]
}

// follow is how many free pages follow one another from a place on.
func (p *pair) follow(at int) int {
	n := 0
	for p.isFree(at + n) {
		n++
	}
	return n
}

// rows are the longest rows of free pages.
func (p *pair) rows() []row {
	var list []row
	for at := range p.used {
		if p.isFree(at) && !p.isFree(at-1) {
			list = append(list, row{at, p.follow(at)})
		}
	}
	return list
}

// firstOf is the least place from which n free pages follow one another, or -1.
func (p *pair) firstOf(n int) int {
	for at := range p.used {
		if p.follow(at) >= n {
			return at
		}
	}
	return -1
}

func (p *pair) alloc(n int) {
	p.t.Helper()
	before := slices.Clone(p.used)
	at, e := 0, api.ErrArg
	if n >= 1 {
		at, e = p.firstOf(n), api.OK
		if at < 0 {
			at, e = 0, api.ErrFull
		}
	}
	if e == api.OK {
		p.fill(at, n, true)
	}
	if got, f := p.p.Alloc(n); got != at || f != e {
		p.t.Errorf("Alloc(%d) of %v: %d, %d, want %d, %d", n, before, got, f, at, e)
	}
	p.tellAll()
}

// changeModel is what the model answers to a Take (used) or a Free.
func (p *pair) changeModel(base, n int, used bool) api.Errno {
	if n < 1 || base < 0 || n > len(p.used) || base >= len(p.used) || base+n > len(p.used) {
		return api.ErrArg
	}
	for at := base; at < base+n; at++ {
		if p.used[at] == used {
			return api.ErrState
		}
	}
	p.fill(base, n, used)
	return api.OK
}

func (p *pair) fill(base, n int, used bool) {
	for at := base; at < base+n; at++ {
		p.used[at] = used
	}
}

func (p *pair) take(base, n int) {
	p.t.Helper()
	p.change("Take", p.p.Take, base, n, true)
}

func (p *pair) free(base, n int) {
	p.t.Helper()
	p.change("Free", p.p.Free, base, n, false)
}

func (p *pair) change(name string, call func(base, n int) api.Errno, base, n int, used bool) {
	p.t.Helper()
	before := slices.Clone(p.used)
	e := p.changeModel(base, n, used)
	if got := call(base, n); got != e {
		p.t.Errorf("%s(%d, %d) of %v: %d, want %d", name, base, n, before, got, e)
	}
	p.tellAll()
}

// tellAll holds all that the map tells against the model.
func (p *pair) tellAll() {
	p.t.Helper()
	for at := -2; at < len(p.used)+2; at++ {
		if got := p.p.Used(at); got == p.isFree(at) {
			p.t.Errorf("Used(%d) of %v: %v", at, p.used, got)
		}
	}
	runs(p.t, p.p, p.rows()...)
	free, longest := 0, 0
	for at := range p.used {
		if p.isFree(at) {
			free++
		}
		longest = max(longest, p.follow(at))
	}
	counts(p.t, p.p, free, longest)
}

// act does one of three calls.
func (p *pair) act(call, x, y int) {
	p.t.Helper()
	switch call {
	case 0:
		p.alloc(x)
	case 1:
		p.take(x, y)
	case 2:
		p.free(x, y)
	}
}
