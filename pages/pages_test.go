package pages_test

import (
	"fmt"
	"iter"
	"math"
	"slices"
	"testing"

	"treadle/api"
	"treadle/pages"
)

// few is how many pages the maps have whose settings are all looked at.
const few = 7

// numbers are an int's edges, and those of a map of few pages and of the greatest one.
func numbers() []int {
	return []int{
		math.MinInt, math.MinInt + 1, math.MinInt + few, -api.MaxPages - 1, -api.MaxPages, -few - 1, -few, -2, -1,
		0, 1, 2, 3, few - 1, few, few + 1, 2 * few,
		api.MaxPages - 1, api.MaxPages, api.MaxPages + 1, math.MaxInt - few, math.MaxInt - 1, math.MaxInt,
	}
}

// made is a map of so many pages.
func made(t testing.TB, n int) *pages.Pages {
	t.Helper()
	p, e := pages.New(n)
	if p == nil || e != api.OK {
		t.Fatalf("New(%d): %v, %d", n, p, e)
	}
	return p
}

// want fails the test if a call's error is another one.
func want(t testing.TB, call string, got, e api.Errno) {
	t.Helper()
	if got != e {
		t.Errorf("%s: %d, want %d", call, got, e)
	}
}

// allocates fails the test if Alloc(n) answers another place.
func allocates(t testing.TB, p *pages.Pages, n, at int) {
	t.Helper()
	if got, e := p.Alloc(n); got != at || e != api.OK {
		t.Errorf("Alloc(%d): %d, %d, want %d", n, got, e, at)
	}
}

// refuses fails the test if Alloc(n) answers another error, or a place.
func refuses(t testing.TB, p *pages.Pages, n int, e api.Errno) {
	t.Helper()
	if got, f := p.Alloc(n); got != 0 || f != e {
		t.Errorf("Alloc(%d): %d, %d, want 0, %d", n, got, f, e)
	}
}

// listed are the rows that an iterator gives.
func listed(seq iter.Seq2[int, int]) []row {
	var list []row
	for base, length := range seq {
		list = append(list, row{base, length})
	}
	return list
}

// runs fails the test if the rows of free pages are others.
func runs(t testing.TB, p *pages.Pages, list ...row) {
	t.Helper()
	if got := listed(p.Runs()); !slices.Equal(got, list) {
		t.Errorf("Runs: %v, want %v", got, list)
	}
}

// counts fails the test if the counts are others.
func counts(t testing.TB, p *pages.Pages, free, longest int) {
	t.Helper()
	if x, y := p.Counts(); x != free || y != longest {
		t.Errorf("Counts: %d, %d, want %d, %d", x, y, free, longest)
	}
}

func TestExample(t *testing.T) {
	p := made(t, 8)
	allocates(t, p, 3, 0)
	allocates(t, p, 2, 3)
	want(t, "Free(0, 3)", p.Free(0, 3), api.OK)
	refuses(t, p, 4, api.ErrFull)
	allocates(t, p, 2, 0)
	runs(t, p, row{2, 1}, row{5, 3})
	counts(t, p, 4, 3)
	want(t, "Free(2, 1)", p.Free(2, 1), api.ErrState)
	want(t, "Take(7, 2)", p.Take(7, 2), api.ErrArg)
	runs(t, p, row{2, 1}, row{5, 3})
}

func TestNew(t *testing.T) {
	for _, n := range numbers() {
		p, e := pages.New(n)
		if n < 1 || n > api.MaxPages {
			if p != nil || e != api.ErrArg {
				t.Errorf("New(%d): %v, %d", n, p, e)
			}
			continue
		}
		if p == nil || e != api.OK {
			t.Fatalf("New(%d): %v, %d", n, p, e)
		}
		runs(t, p, row{0, n})
		counts(t, p, n, n)
		for at := range n {
			if p.Used(at) {
				t.Errorf("New(%d), Used(%d)", n, at)
			}
		}
		for _, at := range []int{math.MinInt, -n, -1, n, n + 1, math.MaxInt} {
			if !p.Used(at) {
				t.Errorf("New(%d), Used(%d): false", n, at)
			}
		}
	}
}

func TestRowOfAllPages(t *testing.T) {
	for _, n := range []int{1, 2, 63, 64, 65, api.MaxPages - 1, api.MaxPages} {
		p := made(t, n)
		refuses(t, p, n+1, api.ErrFull)
		allocates(t, p, n, 0)
		runs(t, p)
		counts(t, p, 0, 0)
		refuses(t, p, 1, api.ErrFull)
		want(t, "Take of all", p.Take(0, n), api.ErrState)
		want(t, "Free of one too many", p.Free(0, n+1), api.ErrArg)
		want(t, "Free of all", p.Free(0, n), api.OK)
		runs(t, p, row{0, n})
		want(t, "Take of one too many", p.Take(0, n+1), api.ErrArg)
		want(t, "Take of all", p.Take(0, n), api.OK)
		counts(t, p, 0, 0)
	}
}

// The least place counts, not the row that fits best, nor the longest one.
func TestLeastPlaceAheadOfLongerAndFittingRows(t *testing.T) {
	p := made(t, 40)
	for _, at := range []int{2, 7, 12, 15} {
		want(t, "Take", p.Take(at, 1), api.OK)
	}
	runs(t, p, row{0, 2}, row{3, 4}, row{8, 4}, row{13, 2}, row{16, 24})
	allocates(t, p, 3, 3)
	allocates(t, p, 3, 8)
	allocates(t, p, 2, 0)
	allocates(t, p, 1, 6)
	allocates(t, p, 2, 13)
	allocates(t, p, 5, 16)
	allocates(t, p, 1, 11)
	runs(t, p, row{21, 19})
}

// Rows of many lengths that begin in the midst of the pages, and so lie across each multiple of a power of 2.
func TestRowInTheMidst(t *testing.T) {
	const n = 300
	for _, base := range []int{1, 7, 8, 60, 63, 64, 65, 127, 128, 200, n - 1} {
		for _, length := range []int{1, 2, 3, 8, 63, 64, 65, 99} {
			if base+length > n {
				continue
			}
			p := made(t, n)
			want(t, "Take of all", p.Take(0, n), api.OK)
			want(t, "Free", p.Free(base, length), api.OK)
			runs(t, p, row{base, length})
			counts(t, p, length, length)
			refuses(t, p, length+1, api.ErrFull)
			allocates(t, p, length, base)
			runs(t, p)
		}
	}
}

func TestRowsComeTogether(t *testing.T) {
	p := made(t, 9)
	want(t, "Take", p.Take(0, 9), api.OK)
	want(t, "Free", p.Free(1, 2), api.OK)
	want(t, "Free", p.Free(5, 3), api.OK)
	refuses(t, p, 4, api.ErrFull)
	want(t, "Free of one between", p.Free(3, 1), api.OK)
	runs(t, p, row{1, 3}, row{5, 3})
	want(t, "Free of the last one between", p.Free(4, 1), api.OK)
	runs(t, p, row{1, 7})
	counts(t, p, 7, 7)
	want(t, "Free of the first one", p.Free(0, 1), api.OK)
	want(t, "Free of the last one", p.Free(8, 1), api.OK)
	runs(t, p, row{0, 9})
	allocates(t, p, 9, 0)
}

// What was used by one call may be freed in pieces, and what was used by several by one.
func TestFreeInOtherPieces(t *testing.T) {
	p := made(t, 6)
	allocates(t, p, 2, 0)
	allocates(t, p, 3, 2)
	want(t, "Take", p.Take(5, 1), api.OK)
	want(t, "Free", p.Free(1, 5), api.OK)
	runs(t, p, row{1, 5})
	allocates(t, p, 5, 1)
	want(t, "Free", p.Free(3, 1), api.OK)
	runs(t, p, row{3, 1})
}

func TestRuns(t *testing.T) {
	p := made(t, 6)
	runs(t, p, row{0, 6})
	want(t, "Take", p.Take(1, 4), api.OK)
	runs(t, p, row{0, 1}, row{5, 1})
	want(t, "Take", p.Take(0, 1), api.OK)
	runs(t, p, row{5, 1})
	want(t, "Take", p.Take(5, 1), api.OK)
	runs(t, p)
	want(t, "Free", p.Free(2, 2), api.OK)
	runs(t, p, row{2, 2})
}

// spotted is a map of 10 pages with the rows (0, 2), (4, 1), (6, 3).
func spotted(t *testing.T) *pages.Pages {
	t.Helper()
	p := made(t, 10)
	want(t, "Take", p.Take(2, 2), api.OK)
	want(t, "Take", p.Take(5, 1), api.OK)
	want(t, "Take", p.Take(9, 1), api.OK)
	return p
}

func TestRangeLeftEarly(t *testing.T) {
	p := spotted(t)
	all := []row{{0, 2}, {4, 1}, {6, 3}}
	seq := p.Runs()
	for stop := range len(all) + 1 {
		var got []row
		for base, length := range seq {
			if len(got) == stop {
				break
			}
			got = append(got, row{base, length})
		}
		if !slices.Equal(got, all[:stop]) {
			t.Errorf("left behind %d: %v", stop, got)
		}
		runs(t, p, all...)
		counts(t, p, 6, 3)
	}
	calls := 0
	seq(func(int, int) bool { calls++; return false })
	if calls != 1 {
		t.Errorf("asked %d times, though the first answer was to stop", calls)
	}
}

func TestSameIteratorAgain(t *testing.T) {
	p := spotted(t)
	seq := p.Runs()
	tells := func(list ...row) {
		t.Helper()
		for range 3 {
			if got := listed(seq); !slices.Equal(got, list) {
				t.Errorf("%v, want %v", got, list)
			}
		}
	}
	tells(row{0, 2}, row{4, 1}, row{6, 3})
	want(t, "Free", p.Free(5, 1), api.OK)
	tells(row{0, 2}, row{4, 5})
	allocates(t, p, 3, 4)
	tells(row{0, 2}, row{7, 2})
	want(t, "Take", p.Take(0, 1), api.OK)
	tells(row{1, 1}, row{7, 2})
	want(t, "refused", p.Take(0, 1), api.ErrState)
	tells(row{1, 1}, row{7, 2})
	if got := listed(p.Runs()); !slices.Equal(got, listed(seq)) {
		t.Errorf("another iterator: %v", got)
	}
}

func TestRangeWithinARange(t *testing.T) {
	p := spotted(t)
	seq := p.Runs()
	var got []row
	for base, length := range seq {
		got = append(got, row{base, length})
		if inner := listed(seq); !slices.Equal(inner, []row{{0, 2}, {4, 1}, {6, 3}}) {
			t.Errorf("within: %v", inner)
		}
	}
	if !slices.Equal(got, []row{{0, 2}, {4, 1}, {6, 3}}) {
		t.Errorf("around: %v", got)
	}
}

// Each row may be used as soon as it is given.
func TestChangeWithinARange(t *testing.T) {
	p := spotted(t)
	var got []row
	for base, length := range p.Runs() {
		got = append(got, row{base, length})
		want(t, "Take", p.Take(base, length), api.OK)
	}
	if !slices.Equal(got, []row{{0, 2}, {4, 1}, {6, 3}}) {
		t.Errorf("rows: %v", got)
	}
	runs(t, p)
}

func TestNilPages(t *testing.T) {
	var p *pages.Pages
	for _, x := range numbers() {
		refuses(t, p, x, api.ErrState)
		for _, y := range numbers() {
			want(t, "Take", p.Take(x, y), api.ErrState)
			want(t, "Free", p.Free(x, y), api.ErrState)
		}
		if !p.Used(x) {
			t.Errorf("Used(%d): false", x)
		}
	}
	runs(t, p)
	runs(t, p)
	counts(t, p, 0, 0)
}

// Each call at each place and length, beside each setting of a few pages; what is refused changes nothing.
func TestAllSettingsAgainstModel(t *testing.T) {
	for setting := range uint(1 << few) {
		for n := -1; n <= few+1; n++ {
			newPair(t, few, setting).alloc(n)
			for base := -1; base <= few+1; base++ {
				newPair(t, few, setting).take(base, n)
				newPair(t, few, setting).free(base, n)
			}
		}
		if t.Failed() {
			t.FailNow()
		}
	}
}

func TestAllNumbersAgainstModel(t *testing.T) {
	for _, setting := range []uint{0, 1<<few - 1, 1, 1 << (few - 1), 0b0110011} {
		for _, x := range numbers() {
			p := newPair(t, few, setting)
			p.alloc(x)
			if got := p.p.Used(x); got == p.isFree(x) {
				t.Errorf("Used(%d) of %v: %v", x, p.used, got)
			}
			for _, y := range numbers() {
				newPair(t, few, setting).take(x, y)
				newPair(t, few, setting).free(x, y)
			}
		}
	}
}

// A long walk of calls, which two maps are told in turn, so that one would tell what is kept of the other's.
func TestLongWalkAgainstModel(t *testing.T) {
	const n = 150
	even, odd := newPair(t, n, 0), newPair(t, n, 0)
	seed := uint64(1)
	next := func(n int) int {
		seed = seed*6364136223846793005 + 1442695040888963407
		return int(seed >> 33 % uint64(n))
	}
	for i := range 20000 {
		p := even
		if i%2 == 1 {
			p = odd
		}
		switch call := next(4); call {
		case 0:
			p.alloc(next(20))
		case 1, 2:
			p.act(call, next(n+2)-1, next(7))
		case 3:
			base := next(n)
			p.free(base, max(1, min(next(12), n-base)))
		}
		if t.Failed() {
			t.FailNow()
		}
	}
}

// A second map that is told the same answers the same, though another one was told much between.
func TestAnswersHangOnWhatWasTold(t *testing.T) {
	first := walk(t)
	other := made(t, 3)
	allocates(t, other, 2, 0)
	if second := walk(t); second != first {
		t.Errorf("first %s, and then %s", first, second)
	}
	runs(t, other, row{2, 1})
}

// walk is what a map answers to some calls.
func walk(t *testing.T) string {
	p := made(t, 12)
	told := fmt.Sprint(p.Take(3, 2), p.Take(4, 1), p.Free(3, 1), p.Free(0, 1), p.Free(11, 2))
	for n := -1; n < 6; n++ {
		at, e := p.Alloc(n)
		free, longest := p.Counts()
		told += fmt.Sprint(" ", at, e, p.Used(n+4), listed(p.Runs()), free, longest)
	}
	return told
}

// A call that panics fails the test by itself.
func FuzzCalls(f *testing.F) {
	for i, x := range numbers() {
		f.Add(uint(i*37), i, x, numbers()[len(numbers())-1-i], i+1, 3, 2)
		f.Add(uint(i), i+1, 0, x, i+2, x, 1)
	}
	f.Fuzz(func(t *testing.T, setting uint, call, x, y, second, z, n int) {
		p := newPair(t, 9, setting)
		p.act(int(uint(call)%3), x, y)
		p.act(int(uint(second)%3), z, n)
		p.act(int(uint(call)%3), y, z)
	})
}
