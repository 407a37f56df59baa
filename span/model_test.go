package span_test

import (
	"slices"
	"testing"

	"treadle/api"
	"treadle/span"
)

// pair is a table beside a model of it: the list of its spans, which is gone through for each answer.
type pair struct {
	t     testing.TB
	table *span.Table
	n     int
	spans []api.Span
}

func newPair(t testing.TB, n int) *pair {
	t.Helper()
	return &pair{t: t, table: made(t, n), n: n}
}

// find is the model's span in which a page lies.
func (p *pair) find(page int) (api.Span, bool) {
	for _, s := range p.spans {
		if page >= s.Base && page-s.Base < s.Pages {
			return s, true
		}
	}
	return api.Span{}, false
}

// follow is how many free pages follow one another from a place on.
func (p *pair) follow(at int) int {
	for n := 0; ; n++ {
		if _, found := p.find(at + n); found || at+n >= p.n {
			return n
		}
	}
}

// allocModel is what the model answers to Alloc.
func (p *pair) allocModel(n, tag int) (api.Span, api.Errno) {
	if n < 1 {
		return api.Span{}, api.ErrArg
	}
	for at := range p.n {
		if p.follow(at) >= n {
			s := api.Span{Base: at, Pages: n, Tag: tag}
			p.spans = append(p.spans, s)
			return s, api.OK
		}
	}
	return api.Span{}, api.ErrFull
}

func (p *pair) alloc(n, tag int) {
	p.t.Helper()
	before := slices.Clone(p.spans)
	s, e := p.allocModel(n, tag)
	if got, f := p.table.Alloc(n, tag); got != s || f != e {
		p.t.Errorf("Alloc(%d, %d) beside %v: %v, %d, want %v, %d", n, tag, before, got, f, s, e)
	}
	p.tellAll()
}

func (p *pair) free(base int) {
	p.t.Helper()
	before := slices.Clone(p.spans)
	e := api.ErrNone
	p.spans = slices.DeleteFunc(p.spans, func(s api.Span) bool {
		if s.Base == base {
			e = api.OK
		}
		return s.Base == base
	})
	if got := p.table.Free(base); got != e {
		p.t.Errorf("Free(%d) of %v: %d, want %d", base, before, got, e)
	}
	p.tellAll()
}

// tellAll holds all that the table tells against the model.
func (p *pair) tellAll() {
	p.t.Helper()
	for page := -2; page < p.n+2; page++ {
		s, found := p.find(page)
		if got, is := p.table.Find(page); got != s || is != found {
			p.t.Errorf("Find(%d) beside %v: %v, %v, want %v, %v", page, p.spans, got, is, s, found)
		}
	}
	rising := slices.Clone(p.spans)
	slices.SortFunc(rising, func(a, b api.Span) int { return a.Base - b.Base })
	all(p.t, p.table, rising...)
	free, longest := p.n, 0
	for _, s := range p.spans {
		free -= s.Pages
	}
	for at := range p.n {
		longest = max(longest, p.follow(at))
	}
	counts(p.t, p.table, free, longest)
}
