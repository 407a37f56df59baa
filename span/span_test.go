package span_test

import (
	"fmt"
	"math"
	"slices"
	"testing"

	"treadle/api"
	"treadle/span"
)

// numbers are an int's edges, and those of a table of few pages and of the greatest one.
func numbers() []int {
	return []int{
		math.MinInt, math.MinInt + 1, math.MinInt + 8, -api.MaxPages - 1, -api.MaxPages, -9, -8, -2, -1,
		0, 1, 2, 3, 7, 8, 9, 16,
		api.MaxPages - 1, api.MaxPages, api.MaxPages + 1, math.MaxInt - 8, math.MaxInt - 1, math.MaxInt,
	}
}

// made is a table of so many pages.
func made(t testing.TB, n int) *span.Table {
	t.Helper()
	table, e := span.New(n)
	if table == nil || e != api.OK {
		t.Fatalf("New(%d): %v, %d", n, table, e)
	}
	return table
}

// want fails the test if a call's error is another one.
func want(t testing.TB, call string, got, e api.Errno) {
	t.Helper()
	if got != e {
		t.Errorf("%s: %d, want %d", call, got, e)
	}
}

// allocates fails the test if Alloc answers another span.
func allocates(t testing.TB, table *span.Table, n, tag, base int) {
	t.Helper()
	s := api.Span{Base: base, Pages: n, Tag: tag}
	if got, e := table.Alloc(n, tag); got != s || e != api.OK {
		t.Errorf("Alloc(%d, %d): %v, %d, want %v", n, tag, got, e, s)
	}
}

// refuses fails the test if Alloc answers another error, or a span.
func refuses(t testing.TB, table *span.Table, n, tag int, e api.Errno) {
	t.Helper()
	if got, f := table.Alloc(n, tag); got != (api.Span{}) || f != e {
		t.Errorf("Alloc(%d, %d): %v, %d, want none, %d", n, tag, got, f, e)
	}
}

// finds fails the test if a page lies in another span.
func finds(t testing.TB, table *span.Table, page int, s api.Span) {
	t.Helper()
	if got, found := table.Find(page); got != s || !found {
		t.Errorf("Find(%d): %v, %v, want %v", page, got, found, s)
	}
}

// lacks fails the test if a page lies in a span.
func lacks(t testing.TB, table *span.Table, page int) {
	t.Helper()
	if got, found := table.Find(page); got != (api.Span{}) || found {
		t.Errorf("Find(%d): %v, %v, want none", page, got, found)
	}
}

// all fails the test if the spans are others.
func all(t testing.TB, table *span.Table, list ...api.Span) {
	t.Helper()
	if got := slices.Collect(table.All()); !slices.Equal(got, list) {
		t.Errorf("All: %v, want %v", got, list)
	}
}

// counts fails the test if the counts are others.
func counts(t testing.TB, table *span.Table, free, longest int) {
	t.Helper()
	if x, y := table.Counts(); x != free || y != longest {
		t.Errorf("Counts: %d, %d, want %d, %d", x, y, free, longest)
	}
}

func TestExample(t *testing.T) {
	table := made(t, 8)
	allocates(t, table, 3, 7, 0)
	allocates(t, table, 1, 9, 3)
	finds(t, table, 2, api.Span{Base: 0, Pages: 3, Tag: 7})
	lacks(t, table, 4)
	want(t, "Free(2)", table.Free(2), api.ErrNone)
	all(t, table, api.Span{Base: 0, Pages: 3, Tag: 7}, api.Span{Base: 3, Pages: 1, Tag: 9})
	want(t, "Free(0)", table.Free(0), api.OK)
	all(t, table, api.Span{Base: 3, Pages: 1, Tag: 9})
	counts(t, table, 7, 4)
}

func TestNew(t *testing.T) {
	for _, n := range numbers() {
		table, e := span.New(n)
		if n < 1 || n > api.MaxPages {
			if table != nil || e != api.ErrArg {
				t.Errorf("New(%d): %v, %d", n, table, e)
			}
			continue
		}
		if table == nil || e != api.OK {
			t.Fatalf("New(%d): %v, %d", n, table, e)
		}
		all(t, table)
		counts(t, table, n, n)
		for page := range n {
			lacks(t, table, page)
		}
	}
}

func TestSpanOfAllPages(t *testing.T) {
	for _, n := range []int{1, 2, 64, api.MaxPages} {
		table := made(t, n)
		refuses(t, table, n+1, 5, api.ErrFull)
		allocates(t, table, n, 5, 0)
		for page := range n {
			finds(t, table, page, api.Span{Base: 0, Pages: n, Tag: 5})
		}
		lacks(t, table, -1)
		lacks(t, table, n)
		counts(t, table, 0, 0)
		refuses(t, table, 1, 5, api.ErrFull)
		for page := 1; page <= n; page++ {
			want(t, "Free within", table.Free(page), api.ErrNone)
		}
		want(t, "Free", table.Free(0), api.OK)
		all(t, table)
		counts(t, table, n, n)
		want(t, "Free once more", table.Free(0), api.ErrNone)
	}
}

func TestFindOfEachPage(t *testing.T) {
	table := made(t, 12)
	allocates(t, table, 1, 1, 0)
	allocates(t, table, 4, 2, 1)
	allocates(t, table, 2, 3, 5)
	allocates(t, table, 3, 4, 7)
	want(t, "Free", table.Free(5), api.OK)
	for page := range 12 {
		switch {
		case page == 0:
			finds(t, table, page, api.Span{Base: 0, Pages: 1, Tag: 1})
		case page <= 4:
			finds(t, table, page, api.Span{Base: 1, Pages: 4, Tag: 2})
		case page >= 7 && page <= 9:
			finds(t, table, page, api.Span{Base: 7, Pages: 3, Tag: 4})
		default:
			lacks(t, table, page)
		}
	}
	for _, page := range []int{math.MinInt, -api.MaxPages, -12, -2, -1, 12, 13, api.MaxPages, math.MaxInt - 1, math.MaxInt} {
		lacks(t, table, page)
	}
}

// The order is that of the places, not that in which the spans were made.
func TestAllIsRising(t *testing.T) {
	table := made(t, 10)
	allocates(t, table, 2, 1, 0)
	allocates(t, table, 3, 2, 2)
	allocates(t, table, 4, 3, 5)
	want(t, "Free", table.Free(0), api.OK)
	want(t, "Free", table.Free(2), api.OK)
	allocates(t, table, 1, 4, 0)
	allocates(t, table, 3, 5, 1)
	allocates(t, table, 1, 6, 4)
	all(t, table,
		api.Span{Base: 0, Pages: 1, Tag: 4}, api.Span{Base: 1, Pages: 3, Tag: 5},
		api.Span{Base: 4, Pages: 1, Tag: 6}, api.Span{Base: 5, Pages: 4, Tag: 3})
	counts(t, table, 1, 1)
}

// Spans are told apart by their pages: marks may be alike, or 0, or any number.
func TestMarks(t *testing.T) {
	table := made(t, 9)
	tags := []int{7, 7, 0, 0, -1, math.MinInt, math.MaxInt, 3}
	var list []api.Span
	for base, tag := range tags {
		allocates(t, table, 1, tag, base)
		list = append(list, api.Span{Base: base, Pages: 1, Tag: tag})
	}
	for _, s := range list {
		finds(t, table, s.Base, s)
	}
	lacks(t, table, 8)
	all(t, table, list...)
	want(t, "Free of one of two with one mark", table.Free(1), api.OK)
	lacks(t, table, 1)
	finds(t, table, 0, list[0])
	want(t, "Free of one with the mark 0", table.Free(2), api.OK)
	lacks(t, table, 2)
	finds(t, table, 3, list[3])
	all(t, table, append(list[:1:1], list[3:]...)...)
}

// The first span may have 0 as its place and as its mark.
func TestSpanAtPageNoughtWithMarkNought(t *testing.T) {
	table := made(t, 3)
	lacks(t, table, 0)
	want(t, "Free of no span", table.Free(0), api.ErrNone)
	allocates(t, table, 2, 0, 0)
	finds(t, table, 0, api.Span{Base: 0, Pages: 2})
	finds(t, table, 1, api.Span{Base: 0, Pages: 2})
	lacks(t, table, 2)
	all(t, table, api.Span{Base: 0, Pages: 2})
	want(t, "Free", table.Free(0), api.OK)
	lacks(t, table, 0)
	lacks(t, table, 1)
}

// A place that a span left is another span's, with the new one's mark on each page.
func TestPlaceUsedAgain(t *testing.T) {
	table := made(t, 6)
	allocates(t, table, 4, 1, 0)
	want(t, "Free", table.Free(0), api.OK)
	allocates(t, table, 1, 2, 0)
	allocates(t, table, 2, 3, 1)
	finds(t, table, 0, api.Span{Base: 0, Pages: 1, Tag: 2})
	finds(t, table, 1, api.Span{Base: 1, Pages: 2, Tag: 3})
	finds(t, table, 2, api.Span{Base: 1, Pages: 2, Tag: 3})
	lacks(t, table, 3)
	want(t, "Free", table.Free(0), api.OK)
	want(t, "Free", table.Free(1), api.OK)
	counts(t, table, 6, 6)
	allocates(t, table, 6, 4, 0)
}

// three is a table of 9 pages with the spans of list, and a hole between them.
func three(t *testing.T) (table *span.Table, list []api.Span) {
	t.Helper()
	table = made(t, 9)
	allocates(t, table, 2, 1, 0)
	allocates(t, table, 1, 2, 2)
	allocates(t, table, 3, 3, 3)
	allocates(t, table, 2, 1, 6)
	want(t, "Free", table.Free(2), api.OK)
	return table, []api.Span{{Base: 0, Pages: 2, Tag: 1}, {Base: 3, Pages: 3, Tag: 3}, {Base: 6, Pages: 2, Tag: 1}}
}

func TestRangeLeftEarly(t *testing.T) {
	table, list := three(t)
	seq := table.All()
	for stop := range len(list) + 1 {
		var got []api.Span
		for s := range seq {
			if len(got) == stop {
				break
			}
			got = append(got, s)
		}
		if !slices.Equal(got, list[:stop]) {
			t.Errorf("left behind %d: %v", stop, got)
		}
		all(t, table, list...)
		counts(t, table, 2, 1)
	}
	calls := 0
	seq(func(api.Span) bool { calls++; return false })
	if calls != 1 {
		t.Errorf("asked %d times, though the first answer was to stop", calls)
	}
}

func TestSameIteratorAgain(t *testing.T) {
	table, list := three(t)
	seq := table.All()
	tells := func(list ...api.Span) {
		t.Helper()
		for range 3 {
			if got := slices.Collect(seq); !slices.Equal(got, list) {
				t.Errorf("%v, want %v", got, list)
			}
		}
	}
	tells(list...)
	want(t, "Free", table.Free(0), api.OK)
	tells(list[1:]...)
	allocates(t, table, 1, 8, 0)
	tells(api.Span{Base: 0, Pages: 1, Tag: 8}, list[1], list[2])
	want(t, "refused", table.Free(4), api.ErrNone)
	refuses(t, table, 4, 1, api.ErrFull)
	tells(api.Span{Base: 0, Pages: 1, Tag: 8}, list[1], list[2])
	if got := slices.Collect(table.All()); !slices.Equal(got, slices.Collect(seq)) {
		t.Errorf("another iterator: %v", got)
	}
}

func TestRangeWithinARange(t *testing.T) {
	table, list := three(t)
	seq := table.All()
	var got []api.Span
	for s := range seq {
		got = append(got, s)
		if inner := slices.Collect(seq); !slices.Equal(inner, list) {
			t.Errorf("within: %v", inner)
		}
	}
	if !slices.Equal(got, list) {
		t.Errorf("around: %v", got)
	}
}

// Each span may be freed as soon as it is given.
func TestChangeWithinARange(t *testing.T) {
	table, list := three(t)
	var got []api.Span
	for s := range table.All() {
		got = append(got, s)
		want(t, "Free", table.Free(s.Base), api.OK)
	}
	if !slices.Equal(got, list) {
		t.Errorf("spans: %v", got)
	}
	all(t, table)
	counts(t, table, 9, 9)
}

func TestNilTable(t *testing.T) {
	var table *span.Table
	for _, x := range numbers() {
		refuses(t, table, x, x, api.ErrState)
		want(t, "Free", table.Free(x), api.ErrState)
		lacks(t, table, x)
	}
	all(t, table)
	all(t, table)
	counts(t, table, 0, 0)
}

// Each call at each number, beside a table that is empty, one that is full, and one with holes.
func TestAllNumbersAgainstModel(t *testing.T) {
	settings := []func(p *pair){
		func(p *pair) {},
		func(p *pair) { p.alloc(8, 0) },
		func(p *pair) { p.alloc(1, 4); p.alloc(2, 0); p.alloc(3, -4); p.alloc(1, 4); p.free(1) },
	}
	for _, set := range settings {
		for _, x := range numbers() {
			p := newPair(t, 8)
			set(p)
			p.free(x)
			if s, found := p.find(x); found {
				finds(t, p.table, x, s)
			} else {
				lacks(t, p.table, x)
			}
			for _, y := range numbers() {
				p := newPair(t, 8)
				set(p)
				p.alloc(x, y)
			}
		}
	}
}

// A long walk of calls, which two tables are told in turn, so that one would tell what is kept of the other's.
func TestLongWalkAgainstModel(t *testing.T) {
	const n = 40
	even, odd := newPair(t, n), newPair(t, n)
	seed := uint64(1)
	next := func(n int) int {
		seed = seed*6364136223846793005 + 1442695040888963407
		return int(seed >> 33 % uint64(n))
	}
	for i := range 20000 {
		p := even
		if i%2 == 1 {
			p = odd
		}
		if next(2) == 0 {
			p.alloc(next(9), next(4)-1)
		} else {
			p.free(next(n+2) - 1)
		}
		if t.Failed() {
			t.FailNow()
		}
	}
}

// A second table that is told the same answers the same, though another one was told much between.
func TestAnswersHangOnWhatWasTold(t *testing.T) {
	first := walk(t)
	other := made(t, 3)
	allocates(t, other, 2, 6, 0)
	if second := walk(t); second != first {
		t.Errorf("first %s, and then %s", first, second)
	}
	all(t, other, api.Span{Base: 0, Pages: 2, Tag: 6})
}

// walk is what a table answers to some calls.
func walk(t *testing.T) string {
	table := made(t, 12)
	told := ""
	for n := -1; n < 7; n++ {
		s, e := table.Alloc(n, n*n)
		f := table.Free(n + 1)
		inner, found := table.Find(n + 2)
		free, longest := table.Counts()
		told += fmt.Sprint(" ", s, e, f, inner, found, slices.Collect(table.All()), free, longest)
	}
	return told
}

// A call that panics fails the test by itself.
func FuzzCalls(f *testing.F) {
	for i, x := range numbers() {
		f.Add(i%9, x, x, i%5, i, 1)
		f.Add(x, i, i%9, 0, 2, x)
	}
	f.Fuzz(func(t *testing.T, n, tag, base, m, second, page int) {
		p := newPair(t, 9)
		p.alloc(2, tag)
		p.alloc(n, tag)
		p.free(base)
		p.alloc(m, second)
		p.free(page)
		p.alloc(1, page)
	})
}
