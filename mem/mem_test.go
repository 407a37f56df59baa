package mem_test

import (
	"fmt"
	"math"
	"testing"

	"treadle/api"
	"treadle/mem"
)

const pw = api.PageWords

// numbers are an int's edges, and those of a memory of three pages.
func numbers() []int {
	return []int{
		math.MinInt, math.MinInt + 1, math.MinInt + pw, -api.MaxPages*pw - 1, -pw - 1, -pw, -2, -1,
		0, 1, 2, 3, 4, pw - 1, pw, pw + 1, 2*pw - 1, 2 * pw, 3*pw - 1, 3 * pw, 3*pw + 1, 4 * pw,
		api.MaxPages, api.MaxPages * pw, math.MaxInt / pw, math.MaxInt - pw, math.MaxInt - 3, math.MaxInt - 1, math.MaxInt,
	}
}

// made is a memory of so many pages.
func made(t testing.TB, pages int) *mem.Memory {
	t.Helper()
	m, e := mem.New(pages)
	if m == nil || e != api.OK {
		t.Fatalf("New(%d): %v, %d", pages, m, e)
	}
	return m
}

// want fails the test if a call's error is another one.
func want(t testing.TB, call string, got, e api.Errno) {
	t.Helper()
	if got != e {
		t.Errorf("%s: %d, want %d", call, got, e)
	}
}

// loads fails the test if the word at addr is another one.
func loads(t testing.TB, m *mem.Memory, addr int, w uint64) {
	t.Helper()
	if got, e := m.Load(addr); got != w || e != api.OK {
		t.Errorf("Load(%d): %d, %d, want %d", addr, got, e, w)
	}
}

// states fails the test if the pages' states are others.
func states(t testing.TB, m *mem.Memory, list ...int) {
	t.Helper()
	counts := [3]int{}
	for at, s := range list {
		counts[s]++
		if got := m.State(at); got != s {
			t.Errorf("State(%d): %d, want %d", at, got, s)
		}
	}
	if x, y := m.Counts(); x != counts[1] || y != counts[2] {
		t.Errorf("Counts: %d, %d, want %d, %d", x, y, counts[1], counts[2])
	}
}

func TestExample(t *testing.T) {
	m := made(t, 2)
	want(t, "Map(0, 1)", m.Map(0, 1), api.OK)
	want(t, "Store(63, 7)", m.Store(63, 7), api.OK)
	loads(t, m, 63, 7)
	_, e := m.Load(64)
	want(t, "Load(64)", e, api.ErrFault)
	want(t, "Release(0, 1)", m.Release(0, 1), api.OK)
	states(t, m, 2, 0)
	loads(t, m, 63, 0)
	states(t, m, 1, 0)
	want(t, "Map(0, 1)", m.Map(0, 1), api.ErrState)
	want(t, "Release(1, 1)", m.Release(1, 1), api.ErrState)
	want(t, "Map(1, 2)", m.Map(1, 2), api.ErrArg)
}

func TestNew(t *testing.T) {
	for _, pages := range append(numbers(), api.MaxPages-1, api.MaxPages+1) {
		m, e := mem.New(pages)
		if pages < 1 || pages > api.MaxPages {
			if m != nil || e != api.ErrArg {
				t.Errorf("New(%d): %v, %d", pages, m, e)
			}
			continue
		}
		if m == nil || e != api.OK {
			t.Fatalf("New(%d): %v, %d", pages, m, e)
		}
		states(t, m, make([]int, pages)...)
		for _, at := range []int{-1, pages, pages + 1} {
			if got := m.State(at); got != 0 {
				t.Errorf("New(%d), State(%d): %d", pages, at, got)
			}
		}
		want(t, "the last page and one", m.Map(pages-1, 2), api.ErrArg)
		want(t, "all pages and one", m.Map(0, pages+1), api.ErrArg)
		want(t, "all pages", m.Map(0, pages), api.OK)
		states(t, m, slice(pages, 1)...)
	}
}

// slice is a list of n numbers that are all x.
func slice(n, x int) []int {
	list := make([]int, n)
	for i := range list {
		list[i] = x
	}
	return list
}

func TestFirstAndLastWord(t *testing.T) {
	for _, pages := range []int{1, 2, api.MaxPages} {
		m := made(t, pages)
		last := pages*pw - 1
		want(t, "Map", m.Map(0, pages), api.OK)
		want(t, "Store(0)", m.Store(0, math.MaxUint64), api.OK)
		want(t, "Store(last)", m.Store(last, 1<<63), api.OK)
		loads(t, m, 0, math.MaxUint64)
		loads(t, m, last, 1<<63)
		loads(t, m, 1, 0)
		loads(t, m, last-1, 0)
		for _, addr := range []int{-1, last + 1, math.MinInt, math.MaxInt} {
			if w, e := m.Load(addr); w != 0 || e != api.ErrFault {
				t.Errorf("Load(%d) of %d pages: %d, %d", addr, pages, w, e)
			}
			want(t, "Store", m.Store(addr, 1), api.ErrFault)
			if done, e := m.Cas(addr, 0, 1); done || e != api.ErrFault {
				t.Errorf("Cas(%d) of %d pages: %v, %d", addr, pages, done, e)
			}
		}
	}
}

func TestEachWordIsItsOwn(t *testing.T) {
	m := made(t, 3)
	want(t, "Map", m.Map(0, 3), api.OK)
	for addr := range 3 * pw {
		want(t, "Store", m.Store(addr, uint64(addr)*3+1), api.OK)
	}
	for addr := range 3 * pw {
		loads(t, m, addr, uint64(addr)*3+1)
	}
}

// Whatever stood in a page is lost, however it came to be mapped again.
func TestMappedWordsAreNought(t *testing.T) {
	for _, c := range []struct {
		name string
		lose func(m *mem.Memory) api.Errno
	}{
		{"Unmap, Map", func(m *mem.Memory) api.Errno { return m.Unmap(0, 2) + m.Map(0, 2) }},
		{"Release, Unmap, Map", func(m *mem.Memory) api.Errno { return m.Release(0, 2) + m.Unmap(0, 2) + m.Map(0, 2) }},
		{"Release", func(m *mem.Memory) api.Errno { return m.Release(0, 2) }},
	} {
		m := made(t, 3)
		want(t, "Map", m.Map(0, 3), api.OK)
		for addr := range 3 * pw {
			want(t, "Store", m.Store(addr, math.MaxUint64), api.OK)
		}
		want(t, c.name, c.lose(m), api.OK)
		for addr := range 2 * pw {
			loads(t, m, addr, 0)
		}
		for addr := 2 * pw; addr < 3*pw; addr++ {
			loads(t, m, addr, math.MaxUint64)
		}
	}
}

// releasedOnce is a memory of two pages, the first one released, both filled ahead of it.
func releasedOnce(t *testing.T) *mem.Memory {
	t.Helper()
	m := made(t, 2)
	want(t, "Map", m.Map(0, 2), api.OK)
	for addr := range 2 * pw {
		want(t, "Store", m.Store(addr, 9), api.OK)
	}
	want(t, "Release", m.Release(0, 1), api.OK)
	states(t, m, 2, 1)
	return m
}

// filled fails the test if a word of the first page is another one than 0, or than w at addr, or one of the second page other than 9.
func filled(t *testing.T, m *mem.Memory, addr int, w uint64) {
	t.Helper()
	states(t, m, 1, 1)
	for at := range 2 * pw {
		x := uint64(0)
		switch {
		case at == addr:
			x = w
		case at >= pw:
			x = 9
		}
		loads(t, m, at, x)
	}
}

func TestReleasedPageIsMappedByLoadStoreCas(t *testing.T) {
	for _, addr := range []int{0, 1, pw - 1} {
		m := releasedOnce(t)
		loads(t, m, addr, 0)
		filled(t, m, addr, 0)

		m = releasedOnce(t)
		want(t, "Store", m.Store(addr, 5), api.OK)
		filled(t, m, addr, 5)

		m = releasedOnce(t)
		if done, e := m.Cas(addr, 0, 6); !done || e != api.OK {
			t.Errorf("Cas(%d, 0, 6): %v, %d", addr, done, e)
		}
		filled(t, m, addr, 6)

		m = releasedOnce(t)
		if done, e := m.Cas(addr, 9, 6); done || e != api.OK {
			t.Errorf("Cas(%d, 9, 6): %v, %d", addr, done, e)
		}
		filled(t, m, addr, 0)
	}
}

func TestReleasedPagesAreMappedByCopy(t *testing.T) {
	m := releasedOnce(t)
	want(t, "from the released page", m.Copy(pw, pw-1, 1), api.OK)
	filled(t, m, pw, 0)

	m = releasedOnce(t)
	want(t, "to the released page", m.Copy(0, 2*pw-1, 1), api.OK)
	filled(t, m, 0, 9)

	m = releasedOnce(t)
	want(t, "within the released page", m.Copy(3, 4, 2), api.OK)
	filled(t, m, 0, 0)

	m = releasedOnce(t)
	want(t, "onto itself", m.Copy(7, 7, 1), api.OK)
	filled(t, m, 0, 0)

	m = releasedOnce(t)
	want(t, "no words", m.Copy(0, 1, 0), api.OK)
	states(t, m, 2, 1)
}

func TestCas(t *testing.T) {
	m := made(t, 1)
	want(t, "Map", m.Map(0, 1), api.OK)
	for _, c := range []struct {
		old, w uint64
		done   bool
		then   uint64
	}{
		{1, 2, false, 0},
		{0, 3, true, 3},
		{0, 4, false, 3},
		{3, 3, true, 3},
		{3, math.MaxUint64, true, math.MaxUint64},
		{math.MaxInt64, 1, false, math.MaxUint64},
		{math.MaxUint64, 0, true, 0},
	} {
		if done, e := m.Cas(8, c.old, c.w); done != c.done || e != api.OK {
			t.Errorf("Cas(8, %d, %d): %v, %d", c.old, c.w, done, e)
		}
		loads(t, m, 8, c.then)
		loads(t, m, 7, 0)
		loads(t, m, 9, 0)
	}
}

func TestCopyOfRowsThatLieAcross(t *testing.T) {
	ends := []int{0, 1, 2, pw - 2, pw - 1, pw, pw + 1, 2*pw - 1, 2 * pw, 3*pw - 2, 3*pw - 1}
	for _, to := range ends {
		for _, from := range ends {
			for _, n := range []int{0, 1, 2, 3, pw - 1, pw, pw + 1, 2 * pw, 2*pw + 1, 3*pw - 1, 3 * pw} {
				if max(to, from)+n > 3*pw {
					continue
				}
				copied(t, to, from, n)
			}
		}
	}
}

// copied copies within a memory whose words are all unlike, and fails the test where one isn't then what it ought to be.
func copied(t *testing.T, to, from, n int) {
	t.Helper()
	m := made(t, 3)
	want(t, "Map", m.Map(0, 3), api.OK)
	for addr := range 3 * pw {
		want(t, "Store", m.Store(addr, uint64(addr)+1), api.OK)
	}
	want(t, "Copy", m.Copy(to, from, n), api.OK)
	for addr := range 3 * pw {
		w := uint64(addr) + 1
		if to <= addr && addr < to+n {
			w = uint64(addr-to+from) + 1
		}
		if got, e := m.Load(addr); got != w || e != api.OK {
			t.Fatalf("Copy(%d, %d, %d), Load(%d): %d, %d, want %d", to, from, n, addr, got, e, w)
		}
	}
}

func TestCopyOfAll(t *testing.T) {
	m := made(t, api.MaxPages)
	want(t, "Map", m.Map(0, api.MaxPages), api.OK)
	last := api.MaxPages*pw - 1
	want(t, "Store", m.Store(0, 1), api.OK)
	want(t, "Store", m.Store(last-1, 2), api.OK)
	want(t, "Copy", m.Copy(1, 0, last), api.OK)
	loads(t, m, 0, 1)
	loads(t, m, 1, 1)
	loads(t, m, last, 2)
	want(t, "all, onto itself", m.Copy(0, 0, last+1), api.OK)
	want(t, "one more", m.Copy(0, 0, last+2), api.ErrFault)
}

func TestNilMemory(t *testing.T) {
	var m *mem.Memory
	for _, x := range numbers() {
		for _, y := range numbers() {
			want(t, "Map", m.Map(x, y), api.ErrState)
			want(t, "Unmap", m.Unmap(x, y), api.ErrState)
			want(t, "Release", m.Release(x, y), api.ErrState)
			want(t, "Copy", m.Copy(x, 0, y), api.ErrState)
		}
		if w, e := m.Load(x); w != 0 || e != api.ErrState {
			t.Errorf("Load(%d): %d, %d", x, w, e)
		}
		want(t, "Store", m.Store(x, 1), api.ErrState)
		if done, e := m.Cas(x, 0, 0); done || e != api.ErrState {
			t.Errorf("Cas(%d): %v, %d", x, done, e)
		}
		if s := m.State(x); s != 0 {
			t.Errorf("State(%d): %d", x, s)
		}
	}
	if x, y := m.Counts(); x != 0 || y != 0 {
		t.Errorf("Counts: %d, %d", x, y)
	}
}

// What calls answer and change at numbers that aren't in the memory, whatever states its pages are in.
func TestAllNumbersAgainstModel(t *testing.T) {
	for setting := range 27 {
		for _, x := range numbers() {
			for _, y := range numbers() {
				p := newPair(t, setting)
				p.pagesCall(mapPages, x, y)
				p.pagesCall(unmapPages, x, y)
				p.pagesCall(releasePages, x, y)
			}
			p := newPair(t, setting)
			p.load(x)
			p.store(x, 3)
			p.cas(x, 3, 4)
			p.tellState(x)
		}
	}
}

func TestPagesThatDoNotFitAgainstModel(t *testing.T) {
	for setting := range 27 {
		for call := range 3 {
			for base := -1; base <= 3; base++ {
				for n := -1; n <= 4; n++ {
					p := newPair(t, setting)
					p.pagesCall(call, base, n)
					p.tellAll()
				}
			}
		}
	}
}

func TestCopyAgainstModel(t *testing.T) {
	places := []int{math.MinInt, -1, 0, 1, pw - 1, pw, 2*pw - 1, 2 * pw, 3*pw - 1, 3 * pw, math.MaxInt}
	lengths := []int{math.MinInt, -1, 0, 1, 2, pw, pw + 1, 2 * pw, 3 * pw, 3*pw + 1, math.MaxInt - pw, math.MaxInt}
	for setting := range 27 {
		for _, to := range places {
			for _, from := range places {
				for _, n := range lengths {
					p := newPair(t, setting)
					p.copy(to, from, n)
					p.tellAll()
				}
			}
		}
	}
}

// A long walk of calls, which two memories are told in turn, so that one would tell what is kept of the other's.
func TestLongWalkAgainstModel(t *testing.T) {
	even, odd := newPair(t, 0), newPair(t, 0)
	seed := uint64(1)
	next := func(n int) int {
		seed = seed*6364136223846793005 + 1442695040888963407
		return int(seed >> 33 % uint64(n))
	}
	for i := range 20000 {
		p := even
		if i%2 == 1 {
			p = odd
		}
		p.act(next(8), next(3*pw+2)-1, next(3*pw+2)-1, next(pw*2)-1)
		if i%100 < 2 {
			p.tellAll()
		}
		if t.Failed() {
			t.FailNow()
		}
	}
}

// A second memory that is told the same answers the same, though the first one was told much between.
func TestAnswersHangOnWhatWasTold(t *testing.T) {
	first := walk(t)
	other := made(t, 1)
	want(t, "Map", other.Map(0, 1), api.OK)
	want(t, "Store", other.Store(0, 99), api.OK)
	if second := walk(t); second != first {
		t.Errorf("first %s, and then %s", first, second)
	}
	loads(t, other, 0, 99)
}

// walk is what a memory answers to some calls.
func walk(t *testing.T) string {
	m := made(t, 4)
	told := fmt.Sprint(m.Map(1, 3), m.Map(0, 2), m.Store(70, 5), m.Copy(71, 70, 100), m.Release(2, 1))
	for addr := 60; addr < 4*pw+2; addr += 7 {
		w, e := m.Load(addr)
		done, f := m.Cas(addr+1, 0, uint64(addr))
		told += fmt.Sprint(" ", w, e, done, f)
	}
	x, y := m.Counts()
	return told + fmt.Sprint(x, y, m.State(1), m.State(2), m.State(3))
}

// A call that panics fails the test by itself.
func FuzzCalls(f *testing.F) {
	for i, x := range numbers() {
		f.Add(i%27, i, x, numbers()[len(numbers())-1-i], i*5, 1, 0)
		f.Add(26-i%27, 3, x, x, 2, i, pw)
		f.Add(i%27, 6, pw, 1, x, 6, 2*pw)
	}
	f.Fuzz(func(t *testing.T, setting, call, x, y, n, second, z int) {
		p := newPair(t, int(uint(setting)%27))
		p.act(int(uint(call)%8), x, y, n)
		p.act(int(uint(second)%8), z, x, y)
		p.act(int(uint(call)%8), y, z, n)
		p.tellAll()
	})
}
