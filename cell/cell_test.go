package cell_test

import (
	"fmt"
	"math"
	"slices"
	"testing"

	"treadle/api"
	"treadle/cell"
)

// numbers are an int's edges, and those of words, of pages and of places.
func numbers() []int {
	const words = api.MaxPages * api.PageWords
	return []int{
		math.MinInt, math.MinInt + 1, math.MinInt + api.PageWords, -words, -api.MaxPages, -api.PageWords - 1, -api.PageWords, -9, -8, -2, -1,
		0, 1, 2, 3, 7, 8, 9, 12, 63, 64, 65, 127, 128, 129, 192, 511, 512, 576, 1023, 1024, 1025,
		api.MaxPages - 1, api.MaxPages, api.MaxPages + 1, words - 1, words, words + 1,
		math.MaxInt - api.PageWords, math.MaxInt - 1, math.MaxInt,
	}
}

// made is a room for cells of so many pages, for so many processors.
func made(t testing.TB, pages, procs int) *cell.Cells {
	t.Helper()
	c, e := cell.New(pages, procs)
	if c == nil || e != api.OK {
		t.Fatalf("New(%d, %d): %v, %d", pages, procs, c, e)
	}
	return c
}

// want fails the test if a call's error is another one.
func want(t testing.TB, call string, got, e api.Errno) {
	t.Helper()
	if got != e {
		t.Errorf("%s: %d, want %d", call, got, e)
	}
}

// allocates fails the test if Alloc answers another place.
func allocates(t testing.TB, c *cell.Cells, p, words, at int) {
	t.Helper()
	if got, e := c.Alloc(p, words); got != at || e != api.OK {
		t.Errorf("Alloc(%d, %d): %d, %d, want %d", p, words, got, e, at)
	}
}

// refuses fails the test if Alloc answers another error, or a place.
func refuses(t testing.TB, c *cell.Cells, p, words int, e api.Errno) {
	t.Helper()
	if got, f := c.Alloc(p, words); got != 0 || f != e {
		t.Errorf("Alloc(%d, %d): %d, %d, want 0, %d", p, words, got, f, e)
	}
}

// takes fails the test if Pages answers something else.
func takes(t testing.TB, c *cell.Cells, n, base int, e api.Errno) {
	t.Helper()
	if got, f := c.Pages(n); got != base || f != e {
		t.Errorf("Pages(%d): %d, %d, want %d, %d", n, got, f, base, e)
	}
}

// finds fails the test if Find answers something else.
func finds(t testing.TB, c *cell.Cells, addr int, f found) {
	t.Helper()
	if at, words, is := c.Find(addr); (found{at, words, is}) != f {
		t.Errorf("Find(%d): %d, %d, %v, want %v", addr, at, words, is, f)
	}
}

// counts fails the test if the counts are others.
func counts(t testing.TB, c *cell.Cells, cells, words, free int) {
	t.Helper()
	if x, y, z := c.Counts(); x != cells || y != words || z != free {
		t.Errorf("Counts: %d, %d, %d, want %d, %d, %d", x, y, z, cells, words, free)
	}
}

// uses fails the test if other ones of n pages lie in spans, or one that there isn't.
func uses(t testing.TB, c *cell.Cells, n int, list ...int) {
	t.Helper()
	for page := -2; page < n+2; page++ {
		if got := c.Used(page); got != slices.Contains(list, page) {
			t.Errorf("Used(%d): %v", page, got)
		}
	}
}

func TestExample(t *testing.T) {
	c := made(t, 8, 2)
	allocates(t, c, 0, 3, 0)
	allocates(t, c, 0, 3, 3)
	allocates(t, c, 1, 3, 64)
	allocates(t, c, 0, 100, 128)
	finds(t, c, 129, found{128, 128, true})
	want(t, "Free(0)", c.Free(0), api.OK)
	allocates(t, c, 0, 3, 0)
	want(t, "Free(64)", c.Free(64), api.OK)
	uses(t, c, 8, 0, 1, 2, 3)
	want(t, "Flush(1)", c.Flush(1), api.OK)
	uses(t, c, 8, 0, 2, 3)
	counts(t, c, 3, 3+3+128, 5)
}

func TestNew(t *testing.T) {
	for _, pages := range numbers() {
		for _, procs := range numbers() {
			c, e := cell.New(pages, procs)
			if pages < 1 || pages > api.MaxPages || procs < 1 || procs > api.MaxProcs {
				if c != nil || e != api.ErrArg {
					t.Errorf("New(%d, %d): %v, %d", pages, procs, c, e)
				}
				continue
			}
			if c == nil || e != api.OK {
				t.Fatalf("New(%d, %d): %v, %d", pages, procs, c, e)
			}
			counts(t, c, 0, 0, pages)
			uses(t, c, pages)
			finds(t, c, 0, found{})
			refuses(t, c, procs, 1, api.ErrArg)
			allocates(t, c, procs-1, 1, 0)
		}
	}
}

// Each number of processors that there may be, and the ones at the ends of them.
func TestProcessors(t *testing.T) {
	for procs := 1; procs <= api.MaxProcs; procs++ {
		c := made(t, api.MaxProcs, procs)
		for p := range procs {
			allocates(t, c, p, 2, p*api.PageWords)
		}
		for _, p := range []int{math.MinInt, -procs, -1, procs, procs + 1, api.MaxProcs, math.MaxInt} {
			refuses(t, c, p, 2, api.ErrArg)
			want(t, "Flush of no such processor", c.Flush(p), api.ErrArg)
		}
		counts(t, c, procs, 2*procs, api.MaxProcs-procs)
	}
}

// Each class's cells follow one another in a block, and one more begins another block.
func TestBlockOfEachClass(t *testing.T) {
	for _, k := range kinds() {
		c := made(t, 2*k.pages, 1)
		cells := k.pages * api.PageWords / k.words
		for i := range cells {
			allocates(t, c, 0, k.words, i*k.words)
		}
		counts(t, c, cells, cells*k.words, k.pages)
		for addr := range k.pages * api.PageWords {
			f := found{addr / k.words * k.words, k.words, true}
			if addr >= cells*k.words {
				f = found{}
			}
			finds(t, c, addr, f)
		}
		allocates(t, c, 0, k.words, k.pages*api.PageWords)
		counts(t, c, cells+1, (cells+1)*k.words, 0)
	}
}

// So few words as no class's cells have exactly take a greater cell.
func TestWordsBetweenClasses(t *testing.T) {
	c := made(t, 20, 1)
	allocates(t, c, 0, 7, 0)
	allocates(t, c, 0, 8, 8)
	allocates(t, c, 0, 9, 64)
	allocates(t, c, 0, 11, 128)
	allocates(t, c, 0, 33, 192)
	allocates(t, c, 0, 40, 232)
	allocates(t, c, 0, 49, 320)
	finds(t, c, 7, found{0, 8, true})
	finds(t, c, 73, found{64, 10, true})
	finds(t, c, 139, found{128, 12, true})
	finds(t, c, 231, found{192, 40, true})
	finds(t, c, 383, found{320, 64, true})
	counts(t, c, 7, 8+8+10+12+40+40+64, 14)
}

func TestFirstFreeCellOfTheHeldBlock(t *testing.T) {
	c := made(t, 4, 1)
	for i := range 6 {
		allocates(t, c, 0, 10, 10*i)
	}
	for _, addr := range []int{40, 10, 30} {
		want(t, "Free", c.Free(addr), api.OK)
	}
	allocates(t, c, 0, 9, 10)
	allocates(t, c, 0, 10, 30)
	want(t, "Free", c.Free(0), api.OK)
	allocates(t, c, 0, 10, 0)
	allocates(t, c, 0, 10, 40)
	uses(t, c, 4, 0)
	allocates(t, c, 0, 10, 64)
}

// A processor holds one block of each class, and each processor its own.
func TestBlocksOfClassesAndProcessors(t *testing.T) {
	c := made(t, 5, 2)
	allocates(t, c, 0, 1, 0)
	allocates(t, c, 0, 2, 64)
	allocates(t, c, 1, 1, 128)
	allocates(t, c, 1, 2, 192)
	allocates(t, c, 0, 1, 1)
	allocates(t, c, 1, 2, 194)
	allocates(t, c, 1, 1, 129)
	allocates(t, c, 0, 2, 66)
	uses(t, c, 5, 0, 1, 2, 3)
}

// The held block stays the held one while it has a free cell, though one with a lesser first page has one too.
func TestHeldBlockAheadOfLesserOnes(t *testing.T) {
	c := made(t, 4, 1)
	for i := range 3 {
		allocates(t, c, 0, 32, 32*i)
	}
	want(t, "Free in the first block", c.Free(0), api.OK)
	allocates(t, c, 0, 32, 96)
	allocates(t, c, 0, 32, 0)
	allocates(t, c, 0, 32, 128)
}

// four is a room whose processor 0 has filled blocks of cells of 32 words on the pages 0 to 3 and holds that of the page 3.
func four(t *testing.T) *cell.Cells {
	t.Helper()
	c := made(t, 5, 2)
	for i := range 8 {
		allocates(t, c, 0, 32, 32*i)
	}
	return c
}

func TestLeastBlockThatNobodyHolds(t *testing.T) {
	c := four(t)
	want(t, "Free", c.Free(2*64+32), api.OK)
	want(t, "Free", c.Free(1*64), api.OK)
	allocates(t, c, 0, 32, 1*64)
	allocates(t, c, 0, 32, 2*64+32)
	want(t, "Free", c.Free(1*64+32), api.OK)
	want(t, "Free", c.Free(0), api.OK)
	allocates(t, c, 1, 32, 0)
	allocates(t, c, 1, 32, 1*64+32)
	allocates(t, c, 1, 32, 4*64)
	refuses(t, c, 0, 32, api.ErrFull)
}

// A full block was let go when the next one was held: what is freed in it comes to whoever asks next.
func TestFullBlockIsLetGo(t *testing.T) {
	c := four(t)
	want(t, "Free in one that was let go", c.Free(0), api.OK)
	allocates(t, c, 1, 32, 0)
	want(t, "Free of one cell", c.Free(0), api.OK)
	want(t, "Free of the other cell", c.Free(32), api.OK)
	uses(t, c, 5, 0, 1, 2, 3)
	want(t, "Flush", c.Flush(1), api.OK)
	uses(t, c, 5, 1, 2, 3)
}

// A block that has become full is held until its processor asks for one cell more.
func TestFullBlockIsHeldTillThen(t *testing.T) {
	c := four(t)
	want(t, "Free in the full block that is held", c.Free(3*64), api.OK)
	allocates(t, c, 1, 32, 4*64)
	allocates(t, c, 0, 32, 3*64)
	want(t, "Free", c.Free(3*64), api.OK)
	want(t, "Free", c.Free(3*64+32), api.OK)
	uses(t, c, 5, 0, 1, 2, 3, 4)
	allocates(t, c, 0, 32, 3*64)
}

func TestBlockOfAnotherProcessorIsPassedOver(t *testing.T) {
	c := made(t, 3, 3)
	allocates(t, c, 0, 20, 0)
	allocates(t, c, 1, 20, 64)
	allocates(t, c, 2, 20, 128)
	allocates(t, c, 1, 20, 84)
	allocates(t, c, 1, 20, 104)
	refuses(t, c, 1, 20, api.ErrFull)
	want(t, "Flush", c.Flush(2), api.OK)
	allocates(t, c, 1, 20, 148)
	want(t, "Flush", c.Flush(0), api.OK)
	allocates(t, c, 2, 20, 20)
	refuses(t, c, 0, 20, api.ErrFull)
}

// A block of another class is passed over, whether its cells are greater or its pages as many.
func TestBlockOfAnotherClassIsPassedOver(t *testing.T) {
	c := made(t, 4, 2)
	allocates(t, c, 0, 16, 0)
	want(t, "Flush", c.Flush(0), api.OK)
	allocates(t, c, 0, 12, 64)
	allocates(t, c, 1, 20, 128)
	allocates(t, c, 1, 16, 16)
	takes(t, c, 1, 3, api.OK)
	refuses(t, c, 1, 1, api.ErrFull)
	refuses(t, c, 0, 16, api.ErrFull)
}

// Behind a refusal for want of room the processor holds none: its block, full as it was, is given back with its last cell.
func TestNoRoomForANewBlock(t *testing.T) {
	c := made(t, 2, 1)
	takes(t, c, 1, 0, api.OK)
	allocates(t, c, 0, 32, 64)
	allocates(t, c, 0, 32, 96)
	want(t, "Free while it is held", c.Free(64), api.OK)
	allocates(t, c, 0, 32, 64)
	refuses(t, c, 0, 32, api.ErrFull)
	counts(t, c, 2, 64, 0)
	want(t, "Free of one", c.Free(96), api.OK)
	uses(t, c, 2, 0, 1)
	want(t, "Free of the last one", c.Free(64), api.OK)
	uses(t, c, 2, 0)
	counts(t, c, 0, 0, 1)
}

// Another processor may hold what the refused one let go.
func TestNoRoomLetsGoForOthers(t *testing.T) {
	c := made(t, 1, 2)
	allocates(t, c, 0, 32, 0)
	allocates(t, c, 0, 32, 32)
	refuses(t, c, 0, 32, api.ErrFull)
	want(t, "Free", c.Free(0), api.OK)
	allocates(t, c, 1, 32, 0)
	want(t, "Free", c.Free(32), api.OK)
	refuses(t, c, 0, 32, api.ErrFull)
	allocates(t, c, 1, 32, 32)
}

func TestRoomIsARow(t *testing.T) {
	c := made(t, 5, 1)
	takes(t, c, 1, 0, api.OK)
	takes(t, c, 1, 1, api.OK)
	takes(t, c, 1, 2, api.OK)
	want(t, "Give", c.Give(0), api.OK)
	refuses(t, c, 0, 48, api.ErrFull)
	allocates(t, c, 0, 40, 3*64)
	refuses(t, c, 0, 24, api.ErrFull)
	refuses(t, c, 0, 65, api.ErrFull)
	allocates(t, c, 0, 64, 0)
	counts(t, c, 2, 104, 0)
}

func TestGreatCells(t *testing.T) {
	for _, words := range []int{65, 66, 127, 128, 129, 191, 192, 193, 640, 1022, 1023, 1024} {
		pages := (words-1)/api.PageWords + 1
		c := made(t, pages+1, 1)
		takes(t, c, 1, 0, api.OK)
		allocates(t, c, 0, words, api.PageWords)
		counts(t, c, 1, pages*api.PageWords, 0)
		for addr := range api.PageWords {
			finds(t, c, addr, found{})
		}
		for i := range pages * api.PageWords {
			finds(t, c, api.PageWords+i, found{api.PageWords, pages * api.PageWords, true})
		}
		finds(t, c, (pages+1)*api.PageWords, found{})
		for i := 1; i <= pages*api.PageWords; i++ {
			want(t, "Free within", c.Free(api.PageWords+i), api.ErrNone)
		}
		want(t, "Give of a great cell", c.Give(1), api.ErrNone)
		want(t, "Flush", c.Flush(0), api.OK)
		counts(t, c, 1, pages*api.PageWords, 0)
		want(t, "Free", c.Free(api.PageWords), api.OK)
		counts(t, c, 0, 0, pages)
		uses(t, c, pages+1, 0)
		want(t, "Free once more", c.Free(api.PageWords), api.ErrNone)
	}
	c := made(t, 20, 1)
	refuses(t, c, 0, 1025, api.ErrLong)
	counts(t, c, 0, 0, 20)
}

// A great cell has its pages alone, and is no block of which a class's cells are taken.
func TestGreatCellsBesideBlocks(t *testing.T) {
	c := made(t, 13, 2)
	allocates(t, c, 0, 64, 0)
	allocates(t, c, 0, 65, 64)
	allocates(t, c, 1, 64, 3*64)
	allocates(t, c, 0, 128, 4*64)
	allocates(t, c, 0, 129, 6*64)
	want(t, "Free", c.Free(64), api.OK)
	uses(t, c, 13, 0, 3, 4, 5, 6, 7, 8)
	allocates(t, c, 0, 64, 64)
	allocates(t, c, 0, 64, 2*64)
	allocates(t, c, 1, 200, 9*64)
}

func TestFindOfWordsThatAreFreeOrLeftOver(t *testing.T) {
	c := made(t, 5, 1)
	allocates(t, c, 0, 24, 0)
	allocates(t, c, 0, 24, 24)
	allocates(t, c, 0, 24, 48)
	want(t, "Free", c.Free(24), api.OK)
	for addr := range 128 {
		switch {
		case addr < 24:
			finds(t, c, addr, found{0, 24, true})
		case addr >= 48 && addr < 72:
			finds(t, c, addr, found{48, 24, true})
		default:
			finds(t, c, addr, found{})
		}
	}
	for _, addr := range []int{120, 121, 127, 128} {
		want(t, "Free of a word that is left over", c.Free(addr), api.ErrNone)
	}
	takes(t, c, 2, 2, api.OK)
	for addr := 128; addr < 5*64; addr++ {
		finds(t, c, addr, found{})
	}
}

func TestPlacesThatThereArent(t *testing.T) {
	c := made(t, 2, 1)
	allocates(t, c, 0, 1, 0)
	allocates(t, c, 0, 64, 64)
	list := []int{math.MinInt, math.MinInt + 1, -128, -65, -64, -63, -2, -1, 128, 129, 191, 192, api.MaxPages * 64, math.MaxInt - 63, math.MaxInt}
	for _, addr := range list {
		finds(t, c, addr, found{})
		want(t, "Free", c.Free(addr), api.ErrNone)
	}
	for _, page := range []int{math.MinInt, -2, -1, 2, 3, 64, api.MaxPages, math.MaxInt} {
		want(t, "Give", c.Give(page), api.ErrNone)
		if c.Used(page) {
			t.Errorf("Used(%d)", page)
		}
	}
	counts(t, c, 2, 65, 0)
}

func TestWordsAtWhichNoUsedCellBegins(t *testing.T) {
	c := made(t, 6, 1)
	allocates(t, c, 0, 8, 0)
	allocates(t, c, 0, 8, 8)
	takes(t, c, 2, 1, api.OK)
	allocates(t, c, 0, 70, 3*64)
	for _, addr := range []int{1, 7, 9, 15, 16, 63, 64, 65, 128, 3*64 + 1, 4 * 64, 5*64 - 1, 5 * 64} {
		want(t, "Free", c.Free(addr), api.ErrNone)
	}
	counts(t, c, 3, 144, 1)
	want(t, "Free", c.Free(8), api.OK)
	want(t, "Free once more", c.Free(8), api.ErrNone)
	want(t, "Free", c.Free(0), api.OK)
	want(t, "Free once more, of a held block", c.Free(0), api.ErrNone)
	counts(t, c, 1, 128, 1)
	uses(t, c, 6, 0, 1, 2, 3, 4)
}

func TestFreeOfABlocksLastUsedCell(t *testing.T) {
	c := made(t, 3, 2)
	allocates(t, c, 0, 5, 0)
	allocates(t, c, 0, 5, 5)
	allocates(t, c, 1, 5, 64)
	want(t, "Flush", c.Flush(0), api.OK)
	want(t, "Free of one of two", c.Free(0), api.OK)
	uses(t, c, 3, 0, 1)
	want(t, "Free of the last one, not held", c.Free(5), api.OK)
	uses(t, c, 3, 1)
	want(t, "Free of the last one, held", c.Free(64), api.OK)
	uses(t, c, 3, 1)
	counts(t, c, 0, 0, 2)
	allocates(t, c, 1, 5, 64)
	allocates(t, c, 0, 5, 0)
}

// A page that was given back is another span's.
func TestPlaceUsedAgain(t *testing.T) {
	c := made(t, 2, 1)
	allocates(t, c, 0, 1, 0)
	want(t, "Flush", c.Flush(0), api.OK)
	want(t, "Free", c.Free(0), api.OK)
	allocates(t, c, 0, 100, 0)
	want(t, "Free", c.Free(0), api.OK)
	takes(t, c, 2, 0, api.OK)
	want(t, "Give", c.Give(0), api.OK)
	allocates(t, c, 0, 2, 0)
	finds(t, c, 1, found{0, 2, true})
	finds(t, c, 2, found{})
	counts(t, c, 1, 2, 1)
}

func TestFlush(t *testing.T) {
	c := made(t, 8, 2)
	want(t, "Flush of a processor that holds none", c.Flush(0), api.OK)
	allocates(t, c, 0, 1, 0)
	allocates(t, c, 0, 2, 64)
	allocates(t, c, 0, 40, 128)
	allocates(t, c, 0, 64, 256)
	allocates(t, c, 1, 1, 320)
	allocates(t, c, 1, 2, 384)
	for _, addr := range []int{64, 128, 320} {
		want(t, "Free", c.Free(addr), api.OK)
	}
	uses(t, c, 8, 0, 1, 2, 3, 4, 5, 6)
	want(t, "Flush", c.Flush(0), api.OK)
	uses(t, c, 8, 0, 4, 5, 6)
	counts(t, c, 3, 67, 4)
	want(t, "Flush once more", c.Flush(0), api.OK)
	uses(t, c, 8, 0, 4, 5, 6)
	allocates(t, c, 1, 1, 320)
	want(t, "Flush", c.Flush(1), api.OK)
	allocates(t, c, 0, 1, 1)
	allocates(t, c, 0, 2, 386)
	allocates(t, c, 1, 1, 321)
}

func TestPagesAndGiveBesideCells(t *testing.T) {
	c := made(t, 8, 1)
	allocates(t, c, 0, 3, 0)
	takes(t, c, 2, 1, api.OK)
	allocates(t, c, 0, 64, 3*64)
	takes(t, c, 3, 4, api.OK)
	counts(t, c, 2, 67, 1)
	for _, page := range []int{0, 2, 3, 5, 6, 7} {
		want(t, "Give where none begins", c.Give(page), api.ErrNone)
	}
	uses(t, c, 8, 0, 1, 2, 3, 4, 5, 6)
	want(t, "Flush", c.Flush(0), api.OK)
	uses(t, c, 8, 0, 1, 2, 3, 4, 5, 6)
	want(t, "Give", c.Give(1), api.OK)
	want(t, "Give once more", c.Give(1), api.ErrNone)
	uses(t, c, 8, 0, 3, 4, 5, 6)
	takes(t, c, 3, 0, api.ErrFull)
	takes(t, c, 2, 1, api.OK)
	want(t, "Give", c.Give(4), api.OK)
	takes(t, c, 4, 4, api.OK)
	counts(t, c, 2, 67, 0)
	takes(t, c, 1, 0, api.ErrFull)
}

// The first span may begin at the page 0.
func TestPagesOfAll(t *testing.T) {
	for _, n := range []int{1, 2, api.MaxPages} {
		c := made(t, n, 1)
		want(t, "Give of none", c.Give(0), api.ErrNone)
		takes(t, c, n+1, 0, api.ErrFull)
		takes(t, c, n, 0, api.OK)
		counts(t, c, 0, 0, 0)
		refuses(t, c, 0, 1, api.ErrFull)
		want(t, "Free of the first word", c.Free(0), api.ErrNone)
		want(t, "Give of the page behind", c.Give(n), api.ErrNone)
		want(t, "Give", c.Give(0), api.OK)
		counts(t, c, 0, 0, n)
	}
}

func TestWrongNumbersOfPages(t *testing.T) {
	c := made(t, 8, 1)
	for _, n := range numbers() {
		if n >= 1 && n <= 8 {
			continue
		}
		e := api.ErrFull
		if n < 1 {
			e = api.ErrArg
		}
		takes(t, c, n, 0, e)
	}
	counts(t, c, 0, 0, 8)
}

// Of several errors the one that is named first: no such processor and too many words, or no words, or no room.
func TestOrderOfErrors(t *testing.T) {
	c := made(t, 1, 1)
	takes(t, c, 1, 0, api.OK)
	refuses(t, c, 1, api.MaxWords+1, api.ErrArg)
	refuses(t, c, -1, 0, api.ErrArg)
	refuses(t, c, 0, 0, api.ErrArg)
	refuses(t, c, 1, 1, api.ErrArg)
	refuses(t, c, 0, api.MaxWords+1, api.ErrLong)
	refuses(t, c, 0, api.MaxWords, api.ErrFull)
	refuses(t, c, 0, 1, api.ErrFull)
}

func TestAllPages(t *testing.T) {
	c := made(t, api.MaxPages, api.MaxProcs)
	for i := range api.MaxPages {
		allocates(t, c, i%api.MaxProcs, 64, i*api.PageWords)
	}
	counts(t, c, api.MaxPages, api.MaxPages*api.PageWords, 0)
	refuses(t, c, 7, 64, api.ErrFull)
	for i := range api.MaxPages {
		finds(t, c, i*api.PageWords+i%api.PageWords, found{i * api.PageWords, 64, true})
	}
	for i := range api.MaxPages {
		want(t, "Free", c.Free(i*api.PageWords), api.OK)
	}
	for p := range api.MaxProcs {
		want(t, "Flush", c.Flush(p), api.OK)
	}
	counts(t, c, 0, 0, api.MaxPages)
}

func TestNil(t *testing.T) {
	var c *cell.Cells
	for _, x := range numbers() {
		refuses(t, c, x, x, api.ErrState)
		refuses(t, c, 0, x, api.ErrState)
		finds(t, c, x, found{})
		want(t, "Free", c.Free(x), api.ErrState)
		want(t, "Flush", c.Flush(x), api.ErrState)
		takes(t, c, x, 0, api.ErrState)
		want(t, "Give", c.Give(x), api.ErrState)
		if c.Used(x) {
			t.Errorf("Used(%d)", x)
		}
	}
	counts(t, c, 0, 0, 0)
}

// settings are what may have been told ahead of a call.
func settings() []func(p *pair) {
	return []func(p *pair){
		func(p *pair) {},
		func(p *pair) { p.alloc(0, 20); p.alloc(0, 70); p.pages(1); p.alloc(1, 20); p.flush(0) },
		func(p *pair) { p.pages(2); p.alloc(1, 129); p.alloc(1, 1); p.alloc(0, 40); p.give(0) },
		func(p *pair) { p.alloc(0, 64); p.alloc(1, 64); p.free(0); p.pages(7) },
	}
}

// Each call at each number, behind each setting.
func TestAllNumbersAgainstModel(t *testing.T) {
	calls := []func(p *pair, x int){
		(*pair).free, (*pair).flush, (*pair).pages, (*pair).give,
		func(p *pair, x int) { p.alloc(0, x) },
		func(p *pair, x int) { p.alloc(1, x) },
		func(p *pair, x int) { p.alloc(x, 20) },
		func(p *pair, x int) { p.alloc(x, 2000) },
	}
	for _, set := range settings() {
		for _, call := range calls {
			for _, x := range numbers() {
				p := newPair(t, 9, 2)
				set(p)
				call(p, x)
				p.alloc(1, 20)
			}
		}
	}
}

// A long walk of calls, which two rooms are told in turn, so that one would tell what is kept of the other's.
func TestLongWalkAgainstModel(t *testing.T) {
	even, odd := newPair(t, 16, 3), newPair(t, 9, 2)
	seed := uint64(1)
	next := func(n int) int {
		seed = seed*6364136223846793005 + 1442695040888963407
		return int(seed >> 33 % uint64(n))
	}
	for i := range 8000 {
		p := even
		if i%2 == 1 {
			p = odd
		}
		// Now more is used than freed, now less.
		step(p, next, 2+i/500%2*3)
		if t.Failed() {
			t.FailNow()
		}
	}
}

// step does one call: of ten that use a cell or free one, about so many free one.
func step(p *pair, next func(n int) int, frees int) {
	switch x := next(40); {
	case x == 0:
		p.flush(next(p.procs))
	case x == 1:
		p.pages(1 + next(4))
	case x < 4:
		p.give(next(p.n))
	case x == 4:
		p.free(next(p.n * api.PageWords))
	case x == 5:
		p.alloc(next(p.procs), 65+next(300))
	case x%10 < frees && len(p.used) > 0:
		p.free(p.places()[next(len(p.used))])
	default:
		k := kinds()[8+next(8)]
		p.alloc(next(p.procs), k.words-next(2))
	}
}

// A second room that is told the same answers the same, though another one was told much between.
func TestAnswersHangOnWhatWasTold(t *testing.T) {
	first := walk(t)
	other := made(t, 3, 1)
	allocates(t, other, 0, 7, 0)
	for range 20 {
		if second := walk(t); second != first {
			t.Fatalf("first %s, and then %s", first, second)
		}
	}
	finds(t, other, 7, found{0, 8, true})
	counts(t, other, 1, 8, 2)
}

// walk is what a room answers to some calls: blocks are let go, and searched for the least one.
func walk(t *testing.T) string {
	c := made(t, 40, 2)
	told := ""
	for i := range 60 {
		at, e := c.Alloc(i%2, 24+i%3*12)
		told += fmt.Sprint(" ", at, e)
	}
	for i := range 300 {
		told += fmt.Sprint(" ", c.Free(i*7%40*64+i%3*24), c.Free(i%40*64+i%5*24))
		if i%11 == 0 {
			at, e := c.Alloc(i%2, 24)
			told += fmt.Sprint(" ", at, e, c.Flush(i%3))
		}
	}
	cells, words, free := c.Counts()
	return told + fmt.Sprint(" ", cells, words, free)
}

// A call that panics fails the test by itself.
func FuzzCalls(f *testing.F) {
	for i, x := range numbers() {
		f.Add(i%2, x, x, i%3, i%9)
		f.Add(x, i*20, i*64, x, x)
	}
	f.Fuzz(func(t *testing.T, proc, words, addr, flushed, page int) {
		p := newPair(t, 9, 2)
		p.alloc(0, 20)
		p.alloc(proc, words)
		p.pages(page)
		p.free(addr)
		p.flush(flushed)
		p.give(page)
		p.alloc(proc, words)
		p.free(addr)
	})
}
