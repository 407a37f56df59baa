package scav_test

import (
	"fmt"
	"math"
	"slices"
	"testing"

	"treadle/api"
	"treadle/scav"
)

// few is how many pages the maps have whose settings are all looked at.
const few = 4

// settings is how many settings so few pages have.
const settings = 3 * 3 * 3 * 3

// numbers are an int's edges, and those of a map of few pages and of the greatest one.
func numbers() []int {
	return []int{
		math.MinInt, math.MinInt + 1, math.MinInt + few, -api.MaxPages - 1, -api.MaxPages, -few - 1, -few, -2, -1,
		0, 1, 2, 3, few - 1, few, few + 1, 2 * few,
		api.MaxPages - 1, api.MaxPages, api.MaxPages + 1, math.MaxInt - few, math.MaxInt - 1, math.MaxInt,
	}
}

// made is a map of so many pages.
func made(t testing.TB, n int) *scav.Scav {
	t.Helper()
	s, e := scav.New(n)
	if s == nil || e != api.OK {
		t.Fatalf("New(%d): %v, %d", n, s, e)
	}
	return s
}

// want fails the test if a call's error is another one.
func want(t testing.TB, call string, got, e api.Errno) {
	t.Helper()
	if got != e {
		t.Errorf("%s: %d, want %d", call, got, e)
	}
}

// uses fails the test if Use(base, n) answers another number, or an error.
func uses(t testing.TB, s *scav.Scav, base, n, back int) {
	t.Helper()
	if got, e := s.Use(base, n); got != back || e != api.OK {
		t.Errorf("Use(%d, %d): %d, %d, want %d", base, n, got, e, back)
	}
}

// refuses fails the test if Use(base, n) answers another error, or a number.
func refuses(t testing.TB, s *scav.Scav, base, n int, e api.Errno) {
	t.Helper()
	if got, f := s.Use(base, n); got != 0 || f != e {
		t.Errorf("Use(%d, %d): %d, %d, want 0, %d", base, n, got, f, e)
	}
}

// frees fails the test if Free(base, n) answers an error.
func frees(t testing.TB, s *scav.Scav, base, n int) {
	t.Helper()
	want(t, fmt.Sprintf("Free(%d, %d)", base, n), s.Free(base, n), api.OK)
}

// gives fails the test if Give(n) gives others back.
func gives(t testing.TB, s *scav.Scav, n int, list ...int) {
	t.Helper()
	if got := s.Give(n); !slices.Equal(got, list) {
		t.Errorf("Give(%d): %v, want %v", n, got, list)
	}
}

// counts fails the test if the counts are others.
func counts(t testing.TB, s *scav.Scav, used, kept, back int) {
	t.Helper()
	got := [3]int{}
	got[0], got[1], got[2] = s.Counts()
	if want := [3]int{used, kept, back}; got != want {
		t.Errorf("Counts: %d, want %d", got, want)
	}
}

func TestExample(t *testing.T) {
	s := made(t, 4)
	uses(t, s, 0, 3, 3)
	frees(t, s, 1, 2)
	gives(t, s, 1, 2)
	counts(t, s, 1, 1, 2)
	uses(t, s, 1, 2, 1)
	gives(t, s, 5)
	counts(t, s, 3, 0, 1)
}

func TestNew(t *testing.T) {
	for _, n := range numbers() {
		s, e := scav.New(n)
		if n < 1 || n > api.MaxPages {
			if s != nil || e != api.ErrArg {
				t.Errorf("New(%d): %v, %d", n, s, e)
			}
			continue
		}
		if s == nil || e != api.OK {
			t.Fatalf("New(%d): %v, %d", n, s, e)
		}
		counts(t, s, 0, 0, n)
		gives(t, s, n)
		want(t, "Free of a free one", s.Free(n-1, 1), api.ErrState)
		refuses(t, s, 0, n+1, api.ErrArg)
		refuses(t, s, n, 1, api.ErrArg)
		uses(t, s, 0, n, n)
		counts(t, s, n, 0, 0)
	}
}

// All pages at once, and one by one.
func TestAllPages(t *testing.T) {
	for _, n := range []int{1, 2, 63, 64, 65, api.MaxPages - 1, api.MaxPages} {
		s := made(t, n)
		uses(t, s, 0, n, n)
		refuses(t, s, 0, n, api.ErrState)
		want(t, "one too many", s.Free(0, n+1), api.ErrArg)
		frees(t, s, 0, n)
		counts(t, s, 0, n, 0)
		want(t, "again", s.Free(0, n), api.ErrState)
		refuses(t, s, 0, n+1, api.ErrArg)
		uses(t, s, 0, n, 0)
		counts(t, s, n, 0, 0)
		var falling []int
		for at := range n {
			frees(t, s, at, 1)
			counts(t, s, n-at-1, at+1, 0)
			falling = append(falling, n-at-1)
		}
		gives(t, s, n, falling...)
		counts(t, s, 0, 0, n)
		for at := range n {
			uses(t, s, at, 1, 1)
			counts(t, s, at+1, 0, n-at-1)
		}
	}
}

func TestUseTellsHowManyHadBeenGivenBack(t *testing.T) {
	s := made(t, 9)
	uses(t, s, 2, 5, 5)
	frees(t, s, 3, 3)
	counts(t, s, 2, 3, 4)
	gives(t, s, 1, 5)
	uses(t, s, 3, 3, 1)
	uses(t, s, 7, 1, 1)
	frees(t, s, 2, 6)
	uses(t, s, 0, 9, 3)
	frees(t, s, 0, 9)
	gives(t, s, 4, 8, 7, 6, 5)
	uses(t, s, 4, 1, 0)
	uses(t, s, 5, 1, 1)
	uses(t, s, 0, 4, 0)
	uses(t, s, 6, 3, 3)
	counts(t, s, 9, 0, 0)
}

// What was used by one call may be freed in pieces, and what was used by several by one.
func TestFreeInOtherPieces(t *testing.T) {
	s := made(t, 6)
	uses(t, s, 0, 2, 2)
	uses(t, s, 2, 4, 4)
	frees(t, s, 1, 4)
	counts(t, s, 2, 4, 0)
	frees(t, s, 0, 1)
	frees(t, s, 5, 1)
	counts(t, s, 0, 6, 0)
	gives(t, s, 6, 5, 4, 3, 2, 1, 0)
}

// spotted is a map of 8 pages, of which 1, 2, 5 and 7 are kept, 3 and 4 used, 0 and 6 given back.
func spotted(t *testing.T) *scav.Scav {
	t.Helper()
	s := made(t, 8)
	uses(t, s, 1, 5, 5)
	uses(t, s, 7, 1, 1)
	frees(t, s, 1, 2)
	frees(t, s, 5, 1)
	frees(t, s, 7, 1)
	counts(t, s, 2, 4, 2)
	return s
}

func TestGive(t *testing.T) {
	for n, list := range [][]int{{}, {7}, {7, 5}, {7, 5, 2}, {7, 5, 2, 1}, {7, 5, 2, 1}, {7, 5, 2, 1}} {
		s := spotted(t)
		gives(t, s, n, list...)
		counts(t, s, 2, 4-len(list), 2+len(list))
		gives(t, s, 8, []int{7, 5, 2, 1}[len(list):]...)
		counts(t, s, 2, 0, 6)
		gives(t, s, 8)
	}
	for _, n := range []int{4, 5, 8, 9, api.MaxPages, api.MaxPages + 1, math.MaxInt} {
		s := spotted(t)
		gives(t, s, n, 7, 5, 2, 1)
		counts(t, s, 2, 0, 6)
	}
}

func TestGiveOfNone(t *testing.T) {
	for _, n := range []int{0, -1, -2, -8, math.MinInt + 1, math.MinInt} {
		s := spotted(t)
		gives(t, s, n)
		counts(t, s, 2, 4, 2)
		gives(t, s, 1, 7)
		gives(t, s, n)
		counts(t, s, 2, 3, 3)
	}
}

// A page that is given back isn't given again until it was used and freed.
func TestGiveOfOnePageAgain(t *testing.T) {
	s := made(t, 3)
	for back := 1; back >= 0; back-- {
		uses(t, s, 1, 1, 1)
		gives(t, s, 3)
		frees(t, s, 1, 1)
		uses(t, s, 1, 1, 0)
		gives(t, s, 3)
		frees(t, s, 1, 1)
		gives(t, s, 3, 1)
		gives(t, s, 3)
		want(t, "Free of one that is given back", s.Free(1, 1), api.ErrState)
		gives(t, s, 3)
		counts(t, s, 0, 0, 3)
	}
}

// A list is the caller's: what it does with it, in the spare room too, is told by no other call.
func TestListsAreNew(t *testing.T) {
	s := spotted(t)
	first := s.Give(3)
	spoil(first)
	second := s.Give(3)
	if !slices.Equal(second, []int{1}) {
		t.Errorf("behind a list that is spoilt: %v", second)
	}
	spoil(first)
	if !slices.Equal(second, []int{1}) {
		t.Errorf("two lists share memory: %v", second)
	}
	spoil(second)
	counts(t, s, 2, 0, 6)
	frees(t, s, 3, 2)
	gives(t, s, 3, 4, 3)
}

// spoil writes over a list and its spare room.
func spoil(list []int) {
	list = list[:cap(list)]
	for i := range list {
		list[i] = -99
	}
}

// Pages that there aren't come ahead of those that are in another state; one page in the wrong state is enough.
func TestErrors(t *testing.T) {
	s := spotted(t)
	for _, c := range []struct {
		base, n   int
		use, free api.Errno
	}{
		{0, 0, api.ErrArg, api.ErrArg},
		{3, 0, api.ErrArg, api.ErrArg},
		{0, -1, api.ErrArg, api.ErrArg},
		{3, -1, api.ErrArg, api.ErrArg},
		{8, 0, api.ErrArg, api.ErrArg},
		{-1, 0, api.ErrArg, api.ErrArg},
		{3, math.MinInt, api.ErrArg, api.ErrArg},
		{-1, 1, api.ErrArg, api.ErrArg},
		{-1, 5, api.ErrArg, api.ErrArg},
		{-3, 2, api.ErrArg, api.ErrArg},
		{math.MinInt, 1, api.ErrArg, api.ErrArg},
		{math.MinInt, math.MaxInt, api.ErrArg, api.ErrArg},
		{math.MinInt, math.MinInt, api.ErrArg, api.ErrArg},
		{8, 1, api.ErrArg, api.ErrArg},
		{7, 2, api.ErrArg, api.ErrArg},
		{3, 6, api.ErrArg, api.ErrArg},
		{0, 9, api.ErrArg, api.ErrArg},
		{1, math.MaxInt, api.ErrArg, api.ErrArg},
		{3, math.MaxInt - 2, api.ErrArg, api.ErrArg},
		{3, math.MaxInt, api.ErrArg, api.ErrArg},
		{math.MaxInt, 1, api.ErrArg, api.ErrArg},
		{math.MaxInt, 2, api.ErrArg, api.ErrArg},
		{math.MaxInt, math.MaxInt, api.ErrArg, api.ErrArg},
		{0, 8, api.ErrState, api.ErrState},
		{3, 1, api.ErrState, api.OK},
		{4, 1, api.ErrState, api.OK},
		{2, 2, api.ErrState, api.ErrState},
		{4, 2, api.ErrState, api.ErrState},
		{2, 4, api.ErrState, api.ErrState},
		{0, 1, api.OK, api.ErrState},
		{7, 1, api.OK, api.ErrState},
		{5, 3, api.OK, api.ErrState},
		{0, 3, api.OK, api.ErrState},
	} {
		if c.use != api.OK {
			refuses(t, s, c.base, c.n, c.use)
			counts(t, s, 2, 4, 2)
		}
		if c.free != api.OK {
			want(t, fmt.Sprintf("Free(%d, %d)", c.base, c.n), s.Free(c.base, c.n), c.free)
			counts(t, s, 2, 4, 2)
		}
	}
	frees(t, s, 3, 2)
	gives(t, s, 8, 7, 5, 4, 3, 2, 1)
}

func TestNilScav(t *testing.T) {
	var s *scav.Scav
	for _, x := range numbers() {
		for _, y := range numbers() {
			refuses(t, s, x, y, api.ErrState)
			want(t, "Free", s.Free(x, y), api.ErrState)
		}
		gives(t, s, x)
		counts(t, s, 0, 0, 0)
	}
}

// Each call at each place and length, beside each setting of a few pages; what is refused changes nothing.
func TestAllSettingsAgainstModel(t *testing.T) {
	for setting := range settings {
		for n := -1; n <= few+1; n++ {
			p := newPair(t, few, setting)
			p.give(n)
			p.drain()
			for base := -1; base <= few+1; base++ {
				for call := range 2 {
					p := newPair(t, few, setting)
					p.act(call, base, n)
					p.drain()
				}
			}
		}
		if t.Failed() {
			t.FailNow()
		}
	}
}

func TestAllNumbersAgainstModel(t *testing.T) {
	for setting := range settings {
		for _, x := range numbers() {
			p := newPair(t, few, setting)
			p.give(x)
			for _, y := range numbers() {
				p := newPair(t, few, setting)
				p.use(x, y)
				p.free(x, y)
				p.use(x, y)
				p.drain()
			}
		}
		if t.Failed() {
			t.FailNow()
		}
	}
}

// A long walk of calls, which two maps are told in turn, so that one would tell what is kept of the other's.
func TestLongWalkAgainstModel(t *testing.T) {
	const n = 40
	even, odd := newPair(t, n, 0), newPair(t, n, 0)
	seed := uint64(1)
	next := func(n int) int {
		seed = seed*6364136223846793005 + 1442695040888963407
		return int(seed >> 33 % uint64(n))
	}
	for i := range 30000 {
		p := even
		if i%2 == 1 {
			p = odd
		}
		switch call := next(7); call {
		case 0:
			p.give(next(9) - 1)
		default:
			p.act(call%2, next(n+2)-1, next(5))
		}
		if t.Failed() {
			t.FailNow()
		}
	}
	even.drain()
	odd.drain()
}

// A second map that is told the same answers the same, though another one was told much between.
func TestAnswersHangOnWhatWasTold(t *testing.T) {
	first := walk(t)
	other := made(t, 3)
	uses(t, other, 1, 2, 2)
	frees(t, other, 2, 1)
	if second := walk(t); second != first {
		t.Errorf("first %s, and then %s", first, second)
	}
	counts(t, other, 1, 1, 1)
	gives(t, other, 3, 2)
}

// walk is what a map answers to some calls.
func walk(t *testing.T) string {
	s := made(t, 12)
	told := ""
	for i := range 60 {
		back, e := s.Use(i*5%13, i%4)
		f := s.Free(i*7%12, i%3)
		used, kept, given := s.Counts()
		told += fmt.Sprint(" ", back, e, f, used, kept, given)
		if i%6 == 5 {
			told += fmt.Sprint(" ", s.Give(i%5))
		}
	}
	return told
}

// A call that panics fails the test by itself.
func FuzzCalls(f *testing.F) {
	for i, x := range numbers() {
		f.Add(uint(i*371), i, x, numbers()[len(numbers())-1-i], i+1, 3, 2)
		f.Add(uint(i), i+1, 0, x, i+2, x, 1)
	}
	f.Fuzz(func(t *testing.T, setting uint, call, x, y, second, z, n int) {
		p := newPair(t, 9, int(setting%19683))
		p.act(int(uint(call)%3), x, y)
		p.act(int(uint(second)%3), z, n)
		p.act(int(uint(call)%3), y, z)
		p.drain()
	})
}
