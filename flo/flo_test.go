package flo_test

import (
	"math"
	"math/big"
	"testing"

	"treadle/flo"
)

const (
	theNaN      = uint64(0x7ff8000000000001)
	signBit     = uint64(1) << 63
	minus0      = signBit
	inf         = uint64(0x7ff0000000000000)
	minusInf    = inf | signBit
	least       = uint64(1)                  // the least number above 0
	lastBelow   = uint64(0x000fffffffffffff) // the greatest number below the normal ones
	firstNormal = uint64(0x0010000000000000)
	greatest    = uint64(0x7fefffffffffffff) // the greatest number
)

func of(x float64) uint64 { return math.Float64bits(x) }

// nans are NaNs of both signs, quiet and signalling, with low and high bits set.
func nans() []uint64 {
	return []uint64{
		theNaN, theNaN | signBit,
		0x7ff8000000000000, 0xfff8000000000000,
		0x7ff0000000000001, 0xfff0000000000001,
		0x7ff4000000000000, 0xfff4000000000000,
		0x7ff7ffffffffffff, 0xfff7ffffffffffff,
		0x7fffffffffffffff, 0xffffffffffffffff,
		0x7ff8000000000002, 0x7ff800000000beef,
	}
}

// rising are floats that aren't NaNs, each ahead of the next one in the one order.
func rising() []uint64 {
	up := []uint64{
		0, least, 2, 3, 4, 1 << 51, lastBelow - 1, lastBelow, firstNormal, firstNormal + 1, firstNormal + 2, 2 * firstNormal,
		of(1e-300), of(0x1p-537), of(1e-160), of(0x1p-53), of(0x1p-52), of(0.1), of(1.0 / 3), of(0.5) - 1, of(0.5), of(0.5) + 1,
		of(1) - 1, of(1), of(1) + 1, of(1) + 2, of(1.5), of(2) - 1, of(2), of(2.5), of(2.9), of(3), of(10), of(12345.678),
		of(1 << 52), of(1<<52) + 1, of(1<<53) - 1, of(1 << 53), of(1<<53) + 1, of(1 << 54), of(1e18), of(1<<63) - 1, of(1 << 63), of(1<<63) + 1,
		of(1 << 64), of(1e100), of(0x1p511), of(0x1p512), of(0x1p970), of(1e300), of(0x1p1023), greatest - 1, greatest, inf,
	}
	var list []uint64
	for i := range up {
		list = append(list, up[len(up)-1-i]|signBit)
	}
	return append(list, up...)
}

// edges are all of them.
func edges() []uint64 {
	return append(rising(), nans()...)
}

// ints are edges of what FromInt takes.
func ints() []int {
	list := []int{0, 1, 2, 3, 5, 7, 10, 12345, 1<<53 - 1, 1 << 53, math.MaxInt - 1, math.MaxInt}
	for shift := 53; shift < 63; shift++ {
		half := 1 << (shift - 53)
		for _, n := range []int{half, half + 1, half - 1, 2*half + 1, 3 * half, 3*half - 1, 3*half + 1} {
			list = append(list, 1<<shift+n)
		}
	}
	for _, n := range list {
		list = append(list, -n)
	}
	return append(list, math.MinInt, math.MinInt+1, math.MinInt+512, math.MinInt+513)
}

func isNaN(a uint64) bool     { return a&^signBit > inf }
func isInf(a uint64) bool     { return a&^signBit == inf }
func isNought(a uint64) bool  { return a&^signBit == 0 }
func negative(a uint64) bool  { return a&signBit != 0 }
func exact(a uint64) *big.Rat { return new(big.Rat).SetFloat64(math.Float64frombits(a)) }
func signed(size uint64, below bool) uint64 {
	if below {
		return size | signBit
	}
	return size
}

// nearest is an exact number as the nearest float; below is the sign of a result that is rounded to a nought.
func nearest(x *big.Rat, below bool) uint64 {
	f, _ := x.Float64()
	if f == 0 {
		return signed(0, below)
	}
	return of(f)
}

// sum is a + b by exact numbers.
func sum(a, b uint64) uint64 {
	switch {
	case isNaN(a) || isNaN(b) || isInf(a) && isInf(b) && a != b:
		return theNaN
	case isInf(a):
		return a
	case isInf(b):
		return b
	}
	return nearest(new(big.Rat).Add(exact(a), exact(b)), negative(a) && negative(b))
}

// product is a * b by exact numbers.
func product(a, b uint64) uint64 {
	below := negative(a) != negative(b)
	switch {
	case isNaN(a) || isNaN(b) || isInf(a) && isNought(b) || isNought(a) && isInf(b):
		return theNaN
	case isInf(a) || isInf(b):
		return signed(inf, below)
	}
	return nearest(new(big.Rat).Mul(exact(a), exact(b)), below)
}

// quotient is a / b by exact numbers.
func quotient(a, b uint64) uint64 {
	below := negative(a) != negative(b)
	switch {
	case isNaN(a) || isNaN(b) || isInf(a) && isInf(b) || isNought(a) && isNought(b):
		return theNaN
	case isInf(a) || isNought(b):
		return signed(inf, below)
	case isInf(b):
		return signed(0, below)
	}
	return nearest(new(big.Rat).Quo(exact(a), exact(b)), below)
}

func TestCanon(t *testing.T) {
	for _, a := range rising() {
		if got := flo.Canon(a); got != a {
			t.Errorf("Canon(%x): %x", a, got)
		}
	}
	for _, a := range nans() {
		if got := flo.Canon(a); got != theNaN {
			t.Errorf("Canon(%x): %x", a, got)
		}
	}
}

func TestNeg(t *testing.T) {
	for _, a := range rising() {
		if got := flo.Neg(a); got != a^signBit {
			t.Errorf("Neg(%x): %x", a, got)
		}
	}
	for _, a := range nans() {
		if got := flo.Neg(a); got != theNaN {
			t.Errorf("Neg(%x): %x", a, got)
		}
	}
}

type sumCase struct {
	name       string
	call       func(a, b uint64) uint64
	a, b, want uint64
}

func tellSums(t *testing.T, list []sumCase) {
	t.Helper()
	for _, c := range list {
		if got := c.call(c.a, c.b); got != c.want {
			t.Errorf("%s: of %x and %x: %x, want %x", c.name, c.a, c.b, got, c.want)
		}
	}
}

func TestOrdinarySums(t *testing.T) {
	tellSums(t, []sumCase{
		{"Add", flo.Add, of(1), of(2), of(3)},
		{"Add", flo.Add, of(0.1), of(0.2), 0x3fd3333333333334},
		{"Add", flo.Add, of(2.5), of(-4), of(-1.5)},
		{"Sub", flo.Sub, of(1), of(2), of(-1)},
		{"Sub", flo.Sub, of(2.5), of(0.25), of(2.25)},
		{"Mul", flo.Mul, of(3), of(-0.5), of(-1.5)},
		{"Mul", flo.Mul, of(0.1), of(3), 0x3fd3333333333334},
		{"Div", flo.Div, of(3), of(2), of(1.5)},
		{"Div", flo.Div, of(1), of(3), 0x3fd5555555555555},
		{"Div", flo.Div, of(-1), of(4), of(-0.25)},
	})
}

func TestNoughtsAndInfinities(t *testing.T) {
	tellSums(t, []sumCase{
		{"x - x", flo.Sub, of(1.5), of(1.5), 0},
		{"x - x", flo.Sub, of(-1.5), of(-1.5), 0},
		{"x + -x", flo.Add, of(-1.5), of(1.5), 0},
		{"0 - 0", flo.Sub, 0, 0, 0},
		{"-0 - -0", flo.Sub, minus0, minus0, 0},
		{"-0 - 0", flo.Sub, minus0, 0, minus0},
		{"-0 + -0", flo.Add, minus0, minus0, minus0},
		{"-0 + 0", flo.Add, minus0, 0, 0},
		{"-0 * 0", flo.Mul, minus0, 0, minus0},
		{"-0 * -1", flo.Mul, minus0, of(-1), 0},
		{"0 / -1", flo.Div, 0, of(-1), minus0},
		{"1 / 0", flo.Div, of(1), 0, inf},
		{"1 / -0", flo.Div, of(1), minus0, minusInf},
		{"-1 / 0", flo.Div, of(-1), 0, minusInf},
		{"-1 / -0", flo.Div, of(-1), minus0, inf},
		{"Inf / 0", flo.Div, inf, 0, inf},
		{"Inf / -0", flo.Div, inf, minus0, minusInf},
		{"0 / 0", flo.Div, 0, 0, theNaN},
		{"-0 / 0", flo.Div, minus0, 0, theNaN},
		{"0 / -0", flo.Div, 0, minus0, theNaN},
		{"Inf / Inf", flo.Div, inf, inf, theNaN},
		{"-Inf / Inf", flo.Div, minusInf, inf, theNaN},
		{"1 / Inf", flo.Div, of(1), inf, 0},
		{"1 / -Inf", flo.Div, of(1), minusInf, minus0},
		{"0 * Inf", flo.Mul, 0, inf, theNaN},
		{"-Inf * 0", flo.Mul, minusInf, 0, theNaN},
		{"Inf * -0", flo.Mul, inf, minus0, theNaN},
		{"Inf * -2", flo.Mul, inf, of(-2), minusInf},
		{"-Inf * -Inf", flo.Mul, minusInf, minusInf, inf},
		{"Inf - Inf", flo.Sub, inf, inf, theNaN},
		{"-Inf - -Inf", flo.Sub, minusInf, minusInf, theNaN},
		{"Inf + -Inf", flo.Add, inf, minusInf, theNaN},
		{"Inf + Inf", flo.Add, inf, inf, inf},
		{"Inf - -Inf", flo.Sub, inf, minusInf, inf},
		{"1 - Inf", flo.Sub, of(1), inf, minusInf},
		{"-Inf + greatest", flo.Add, minusInf, greatest, minusInf},
	})
}

func TestRounding(t *testing.T) {
	half := of(0x1p-53) // half of the step behind 1
	tellSums(t, []sumCase{
		{"a tie, down to the even one", flo.Add, of(1), half, of(1)},
		{"a tie, up to the even one", flo.Add, of(1) + 1, half, of(1) + 2},
		{"just more than a tie", flo.Add, of(1), half + 1, of(1) + 1},
		{"just less than a tie", flo.Add, of(1) + 1, half - 1, of(1) + 1},
		{"a tie below 0", flo.Add, of(-1), half | signBit, of(-1)},
		{"a tie below 0", flo.Sub, of(-1) + 1, half, of(-1) + 2},
		{"a product's tie", flo.Mul, of(1) + 1, of(1.5), of(1.5) + 2},
		{"a tie below the normal ones, to 0", flo.Div, least, of(2), 0},
		{"a tie below the normal ones, to -0", flo.Div, least, of(-2), minus0},
		{"a tie below the normal ones, up", flo.Div, 3, of(2), 2},
		{"a tie below the normal ones, down", flo.Div, 5, of(2), 2},
		{"just more than a tie below the normal ones", flo.Mul, least, of(0.5) + 1, least},
		{"less than a tie below the normal ones", flo.Mul, least, of(0.25), 0},
		{"the least times itself", flo.Mul, least, least | signBit, minus0},
		{"noughts and least", flo.Add, minus0, least, least},
		{"from below the normal ones", flo.Add, lastBelow, least, firstNormal},
		{"to below the normal ones", flo.Sub, firstNormal, least, lastBelow},
		{"to below the normal ones", flo.Sub, firstNormal + 1, firstNormal, least},
		{"to below the normal ones", flo.Div, firstNormal, of(2), firstNormal / 2},
		{"to the first normal one", flo.Div, 2*firstNormal - 1, of(2), firstNormal},
		{"too great", flo.Add, greatest, greatest, inf},
		{"too great", flo.Mul, greatest, of(-2), minusInf},
		{"too great", flo.Div, greatest, of(0.5), inf},
		{"too great by the tie", flo.Add, greatest, of(0x1p970), inf},
		{"just not too great", flo.Add, greatest, of(0x1p970) - 1, greatest},
		{"just not too little", flo.Sub, greatest | signBit, of(0x1p970) - 1, greatest | signBit},
	})
}

func TestSumsAgainstExactNumbers(t *testing.T) {
	for _, a := range edges() {
		for _, b := range edges() {
			tellSums(t, []sumCase{
				{"Add", flo.Add, a, b, sum(a, b)},
				{"Sub", flo.Sub, a, b, sum(a, b^signBit)},
				{"Mul", flo.Mul, a, b, product(a, b)},
				{"Div", flo.Div, a, b, quotient(a, b)},
			})
		}
	}
}

func TestNaNsSpread(t *testing.T) {
	for _, nan := range nans() {
		for _, b := range edges() {
			for _, call := range []func(a, b uint64) uint64{flo.Add, flo.Sub, flo.Mul, flo.Div, flo.Min, flo.Max} {
				if x, y := call(nan, b), call(b, nan); x != theNaN || y != theNaN {
					t.Errorf("of %x and %x: %x and %x", nan, b, x, y)
				}
			}
		}
	}
}

func TestComparingByHand(t *testing.T) {
	for _, c := range []struct {
		a, b        uint64
		equal, less bool
		order       int
	}{
		{of(1), of(1), true, false, 0},
		{of(1), of(2), false, true, -1},
		{of(2), of(1), false, false, 1},
		{of(-2), of(-1), false, true, -1},
		{of(-1), of(1), false, true, -1},
		{of(1), of(-1), false, false, 1},
		{0, 0, true, false, 0},
		{minus0, minus0, true, false, 0},
		{minus0, 0, true, false, -1},
		{0, minus0, true, false, 1},
		{0, least, false, true, -1},
		{least | signBit, minus0, false, true, -1},
		{least, minus0, false, false, 1},
		{minusInf, inf, false, true, -1},
		{inf, inf, true, false, 0},
		{minusInf, minusInf, true, false, 0},
		{greatest, inf, false, true, -1},
		{minusInf, greatest | signBit, false, true, -1},
		{theNaN, theNaN, false, false, 0},
		{theNaN, inf, false, false, 1},
		{inf, theNaN, false, false, -1},
		{minusInf, theNaN | signBit, false, false, -1},
		{theNaN | signBit, minusInf, false, false, 1},
		{theNaN | signBit, theNaN, false, false, 0},
		{theNaN, theNaN | signBit, false, false, 0},
		{0xffffffffffffffff, 0x7ff0000000000001, false, false, 0},
	} {
		if got := flo.Equal(c.a, c.b); got != c.equal {
			t.Errorf("Equal(%x, %x): %v", c.a, c.b, got)
		}
		if got := flo.Less(c.a, c.b); got != c.less {
			t.Errorf("Less(%x, %x): %v", c.a, c.b, got)
		}
		if got := flo.Order(c.a, c.b); got != c.order {
			t.Errorf("Order(%x, %x): %d", c.a, c.b, got)
		}
	}
}

func TestComparingInOrder(t *testing.T) {
	list := rising()
	for i, a := range list {
		for j, b := range list {
			order := 0
			if i < j {
				order = -1
			}
			if i > j {
				order = 1
			}
			noughts := isNought(a) && isNought(b)
			low, high := list[min(i, j)], list[max(i, j)]
			if flo.Order(a, b) != order || flo.Less(a, b) != (i < j && !noughts) || flo.Equal(a, b) != (i == j || noughts) {
				t.Errorf("%x and %x: Order %d, Less %v, Equal %v", a, b, flo.Order(a, b), flo.Less(a, b), flo.Equal(a, b))
			}
			if flo.Min(a, b) != low || flo.Max(a, b) != high {
				t.Errorf("%x and %x: Min %x, Max %x", a, b, flo.Min(a, b), flo.Max(a, b))
			}
		}
	}
}

func TestNaNsAreBehindAndAlike(t *testing.T) {
	for _, nan := range nans() {
		for _, b := range edges() {
			behind := 1
			if isNaN(b) {
				behind = 0
			}
			if x, y := flo.Order(nan, b), flo.Order(b, nan); x != behind || y != -behind {
				t.Errorf("Order of %x and %x: %d, and %d", nan, b, x, y)
			}
			if flo.Equal(nan, b) || flo.Equal(b, nan) || flo.Less(nan, b) || flo.Less(b, nan) {
				t.Errorf("%x and %x are equal, or one is less", nan, b)
			}
		}
	}
}

func TestMinMaxByHand(t *testing.T) {
	tellSums(t, []sumCase{
		{"Min", flo.Min, of(1), of(2), of(1)},
		{"Min", flo.Min, of(2), of(1), of(1)},
		{"Min", flo.Min, 0, minus0, minus0},
		{"Min", flo.Min, minus0, 0, minus0},
		{"Min", flo.Min, inf, minusInf, minusInf},
		{"Min", flo.Min, minusInf, theNaN, theNaN},
		{"Min", flo.Min, 0xfff0000000000001, minusInf, theNaN},
		{"Max", flo.Max, of(1), of(2), of(2)},
		{"Max", flo.Max, of(-1), of(-2), of(-1)},
		{"Max", flo.Max, 0, minus0, 0},
		{"Max", flo.Max, minus0, 0, 0},
		{"Max", flo.Max, inf, minusInf, inf},
		{"Max", flo.Max, inf, 0xfff0000000000001, theNaN},
		{"Max", flo.Max, 0xffffffffffffffff, inf, theNaN},
	})
}

func TestFromIntByHand(t *testing.T) {
	for _, c := range []struct {
		n    int
		want uint64
	}{
		{0, 0},
		{1, of(1)},
		{-1, of(-1)},
		{-12345, of(-12345)},
		{1<<53 - 1, of(0x1p53) - 1},
		{1 << 53, of(0x1p53)},
		{1<<53 + 1, of(0x1p53)},
		{1<<53 + 2, of(0x1p53) + 1},
		{1<<53 + 3, of(0x1p53) + 2},
		{-1<<53 - 1, of(-0x1p53)},
		{-1<<53 - 3, of(-0x1p53) + 2},
		{1<<54 + 2, of(0x1p54)},
		{1<<54 + 3, of(0x1p54) + 1},
		{1<<54 + 6, of(0x1p54) + 2},
		{math.MaxInt, of(0x1p63)},
		{math.MaxInt - 511, of(0x1p63)},
		{math.MaxInt - 512, of(0x1p63) - 1},
		{math.MinInt, of(-0x1p63)},
		{math.MinInt + 512, of(-0x1p63)},
		{math.MinInt + 513, of(-0x1p63) - 1},
	} {
		if got := flo.FromInt(c.n); got != c.want {
			t.Errorf("FromInt(%d): %x, want %x", c.n, got, c.want)
		}
	}
}

func TestFromIntAgainstExactNumbers(t *testing.T) {
	for _, n := range ints() {
		want := nearest(new(big.Rat).SetInt64(int64(n)), false)
		if got := flo.FromInt(n); got != want {
			t.Errorf("FromInt(%d): %x, want %x", n, got, want)
		}
	}
}

func TestToIntByHand(t *testing.T) {
	for _, c := range []struct {
		a    uint64
		want int
	}{
		{0, 0},
		{minus0, 0},
		{least, 0},
		{lastBelow | signBit, 0},
		{of(0.5), 0},
		{of(1) - 1, 0},
		{of(-0.9), 0},
		{of(1), 1},
		{of(2.9), 2},
		{of(-2.9), -2},
		{of(-3), -3},
		{of(0x1p53) + 1, 1<<53 + 2},
		{of(0x1p63) - 1, math.MaxInt - 1023},
		{of(0x1p63), math.MaxInt},
		{of(0x1p63) + 1, math.MaxInt},
		{of(0x1p64), math.MaxInt},
		{of(1e300), math.MaxInt},
		{greatest, math.MaxInt},
		{inf, math.MaxInt},
		{of(-0x1p63) - 1, math.MinInt + 1024},
		{of(-0x1p63), math.MinInt},
		{of(-0x1p63) + 1, math.MinInt},
		{of(-1e300), math.MinInt},
		{greatest | signBit, math.MinInt},
		{minusInf, math.MinInt},
	} {
		if got := flo.ToInt(c.a); got != c.want {
			t.Errorf("ToInt(%x): %d, want %d", c.a, got, c.want)
		}
	}
	for _, a := range nans() {
		if got := flo.ToInt(a); got != 0 {
			t.Errorf("ToInt(%x): %d", a, got)
		}
	}
}

func TestToIntAgainstExactNumbers(t *testing.T) {
	first, last := big.NewInt(math.MinInt), big.NewInt(math.MaxInt)
	for _, a := range rising() {
		if isInf(a) {
			continue
		}
		x := exact(a)
		whole := new(big.Int).Quo(x.Num(), x.Denom())
		if whole.Cmp(first) < 0 {
			whole = first
		}
		if whole.Cmp(last) > 0 {
			whole = last
		}
		if got := flo.ToInt(a); int64(got) != whole.Int64() {
			t.Errorf("ToInt(%x): %d, want %d", a, got, whole)
		}
	}
}

func TestClass(t *testing.T) {
	for size, want := range map[uint64]int{
		0:               0,
		least:           1,
		2:               1,
		1 << 51:         1,
		lastBelow:       1,
		firstNormal:     2,
		firstNormal + 1: 2,
		of(1):           2,
		of(0.1):         2,
		greatest:        2,
		inf:             3,
	} {
		if x, y := flo.Class(size), flo.Class(size|signBit); x != want || y != want {
			t.Errorf("Class(%x): %d, with the other sign: %d, want %d", size, x, y, want)
		}
	}
	for _, a := range nans() {
		if got := flo.Class(a); got != 4 {
			t.Errorf("Class(%x): %d", a, got)
		}
	}
}

// told is what all calls answer to two floats and an int.
type told struct {
	floats      [9]uint64
	equal, less bool
	numbers     [3]int
}

func answers(a, b uint64, n int) told {
	return told{
		floats:  [9]uint64{flo.Canon(a), flo.Neg(a), flo.Add(a, b), flo.Sub(a, b), flo.Mul(a, b), flo.Div(a, b), flo.Min(a, b), flo.Max(a, b), flo.FromInt(n)},
		equal:   flo.Equal(a, b),
		less:    flo.Less(a, b),
		numbers: [3]int{flo.Order(a, b), flo.ToInt(a), flo.Class(a)},
	}
}

// A second walk, the other way round, would tell what a call had kept of those ahead of it.
func TestAnswersHangOnArgumentsAlone(t *testing.T) {
	list := edges()
	var first []told
	for _, a := range list {
		for _, b := range list {
			first = append(first, answers(a, b, int(a)))
		}
	}
	for k := len(first) - 1; k >= 0; k-- {
		a, b := list[k/len(list)], list[k%len(list)]
		if again := answers(a, b, int(a)); again != first[k] {
			t.Fatalf("%x and %x: %v, and then %v", a, b, first[k], again)
		}
	}
}

// A call that panics fails the test by itself; all numbers of 64 bits stand for any argument.
func FuzzCallsEnd(f *testing.F) {
	list := edges()
	for i, a := range list {
		f.Add(a, list[len(list)-1-i], int(a))
	}
	f.Fuzz(func(t *testing.T, a, b uint64, n int) {
		got := answers(a, b, n)
		for _, x := range got.floats {
			if isNaN(x) && x != theNaN {
				t.Errorf("of %x and %x: the NaN %x", a, b, x)
			}
		}
		want := [5]uint64{sum(a, b), sum(a, b^signBit), product(a, b), quotient(a, b), nearest(new(big.Rat).SetInt64(int64(n)), false)}
		have := [5]uint64{got.floats[2], got.floats[3], got.floats[4], got.floats[5], got.floats[8]}
		if have != want {
			t.Errorf("of %x and %x and %d: %x, want %x", a, b, n, have, want)
		}
		if got.numbers[0] != -flo.Order(b, a) {
			t.Errorf("Order of %x and %x: %d, and %d", a, b, got.numbers[0], flo.Order(b, a))
		}
	})
}
