package class_test

import (
	"math"
	"testing"

	"treadle/api"
	"treadle/class"
)

// row is what there is to tell of a class.
type row struct{ words, pages, cells int }

// rows are what there is to tell of each class, worked out by hand.
func rows() []row {
	return []row{
		{1, 1, 64}, {2, 1, 32}, {3, 1, 21}, {4, 1, 16}, {5, 1, 12}, {6, 1, 10}, {8, 1, 8}, {10, 1, 6},
		{12, 1, 5}, {16, 1, 4}, {20, 1, 3}, {24, 2, 5}, {32, 1, 2}, {40, 2, 3}, {48, 3, 4}, {64, 1, 1},
	}
}

// of fails the test if Of answers another class.
func of(t testing.TB, words, c int) {
	t.Helper()
	if got, e := class.Of(words); got != c || e != api.OK {
		t.Errorf("Of(%d): %d, %d, want %d", words, got, e, c)
	}
}

// refuses fails the test if Of answers another error, or a class.
func refuses(t testing.TB, words int, e api.Errno) {
	t.Helper()
	if got, f := class.Of(words); got != 0 || f != e {
		t.Errorf("Of(%d): %d, %d, want 0, %d", words, got, f, e)
	}
}

// tells fails the test if something else is told of a class.
func tells(t testing.TB, c int, want row) {
	t.Helper()
	if got := (row{class.Words(c), class.Pages(c), class.Cells(c)}); got != want {
		t.Errorf("Words, Pages and Cells of %d: %v, want %v", c, got, want)
	}
}

func TestExample(t *testing.T) {
	of(t, 7, 6)
	of(t, 64, 15)
	refuses(t, 65, api.ErrLong)
	if got := class.Pages(13); got != 2 {
		t.Errorf("Pages(13): %d", got)
	}
	if got := class.Pages(14); got != 3 {
		t.Errorf("Pages(14): %d", got)
	}
	if got := class.Cells(0); got != 64 {
		t.Errorf("Cells(0): %d", got)
	}
	if got := class.Words(16); got != 0 {
		t.Errorf("Words(16): %d", got)
	}
}

func TestCount(t *testing.T) {
	if got := class.Count(); got != 16 || got != len(rows()) {
		t.Errorf("Count: %d", got)
	}
}

func TestEachClass(t *testing.T) {
	for c, want := range rows() {
		tells(t, c, want)
	}
}

func TestNoSuchClass(t *testing.T) {
	for _, c := range []int{math.MinInt, math.MinInt + 1, -64, -16, -2, -1, 16, 17, 32, 64, math.MaxInt - 1, math.MaxInt} {
		tells(t, c, row{})
	}
}

// Each class's words, one less and one more.
func TestOfAtEachClass(t *testing.T) {
	list := rows()
	for c, r := range list {
		of(t, r.words, c)
		switch {
		case r.words == 1:
			refuses(t, r.words-1, api.ErrArg)
		case list[c-1].words == r.words-1:
			of(t, r.words-1, c-1)
		default:
			of(t, r.words-1, c)
		}
		if r.words == api.MaxSmall {
			refuses(t, r.words+1, api.ErrLong)
		} else {
			of(t, r.words+1, c+1)
		}
	}
}

func TestOfIsTheLeastThatIsEnough(t *testing.T) {
	list := rows()
	for words := 1; words <= api.MaxSmall; words++ {
		c := 0
		for list[c].words < words {
			c++
		}
		of(t, words, c)
	}
}

func TestOfOtherWords(t *testing.T) {
	for _, words := range []int{math.MinInt, math.MinInt + 1, -api.MaxWords, -api.MaxSmall - 1, -api.MaxSmall, -2, -1, 0} {
		refuses(t, words, api.ErrArg)
	}
	for _, words := range []int{65, 66, 128, api.MaxWords, api.MaxWords + 1, math.MaxInt - 1, math.MaxInt} {
		refuses(t, words, api.ErrLong)
	}
}

// over is how many words of so many pages no cell of so many words fills.
func over(pages, words int) int {
	left := pages * api.PageWords
	for left >= words {
		left -= words
	}
	return left
}

// Fewer pages would leave more than an eighth over; so many don't.
func TestPagesAreTheLeast(t *testing.T) {
	for c := range class.Count() {
		words, pages := class.Words(c), class.Pages(c)
		for n := 1; n <= pages; n++ {
			enough := 8*over(n, words) <= n*api.PageWords
			if enough != (n == pages) {
				t.Errorf("%d pages of the class %d: enough %v, though Pages is %d", n, c, enough, pages)
			}
		}
		if got := class.Cells(c)*words + over(pages, words); got != pages*api.PageWords {
			t.Errorf("the class %d: the cells' words and those left over are %d", c, got)
		}
	}
}

// What a call answers hangs on nothing that was asked ahead of it.
func TestAskedAgain(t *testing.T) {
	for range 2 {
		for c, want := range rows() {
			tells(t, c, want)
			tells(t, -c-1, row{})
			refuses(t, -c, api.ErrArg)
			of(t, want.words, c)
		}
	}
}

// A call that panics fails the test by itself.
func FuzzCalls(f *testing.F) {
	for _, x := range []int{math.MinInt, -1, 0, 1, 15, 16, 63, 64, 65, math.MaxInt} {
		f.Add(x)
	}
	f.Fuzz(func(t *testing.T, x int) {
		want, wantErr := 0, api.OK
		switch {
		case x < 1:
			wantErr = api.ErrArg
		case x > api.MaxSmall:
			wantErr = api.ErrLong
		}
		list := rows()
		for wantErr == api.OK && list[want].words < x {
			want++
		}
		if got, e := class.Of(x); got != want || e != wantErr {
			t.Errorf("Of(%d): %d, %d, want %d, %d", x, got, e, want, wantErr)
		}
		if x >= 0 && x < len(list) {
			tells(t, x, list[x])
		} else {
			tells(t, x, row{})
		}
	})
}
