package fix_test

import (
	"math"
	"math/big"
	"testing"

	"treadle/api"
	"treadle/fix"
)

const (
	most = uint64(math.MaxUint64)
	top  = uint64(1) << 63
)

// edges are numbers around which results begin to be cut.
func edges() []uint64 {
	list := []uint64{0, 1, 2, 3, 5, 7, 99, 100, 101, 200, 12345}
	for _, shift := range []uint{8, 15, 16, 17, 31, 32, 33, 47, 48, 49, 62, 63} {
		p := uint64(1) << shift
		list = append(list, p-1, p, p+1)
	}
	return append(list, most/3, most/100, most/100+1, most-2, most-1, most)
}

// hundredths are edges of what Percent takes.
func hundredths() []int {
	return []int{math.MinInt, math.MinInt + 1, -100, -1, 0, 1, 49, 50, 99, 100, 101, 150, 1000, 65536, math.MaxInt - 1, math.MaxInt}
}

func wide(n uint64) *big.Int { return new(big.Int).SetUint64(n) }

// held is a number of any size as the document holds it: between 0 and the greatest one.
func held(n *big.Int) uint64 {
	if n.Sign() < 0 {
		return 0
	}
	if !n.IsUint64() {
		return most
	}
	return n.Uint64()
}

// share is a * b / c of numbers of any size, rounded down.
func share(a, b, c uint64) *big.Int {
	product := new(big.Int).Mul(wide(a), wide(b))
	return product.Quo(product, wide(c))
}

func TestAddSubMulByHand(t *testing.T) {
	for _, c := range []struct {
		name string
		call func(a, b uint64) uint64
		a, b uint64
		want uint64
	}{
		{"Add", fix.Add, 0, 0, 0},
		{"Add", fix.Add, 2, 3, 5},
		{"Add", fix.Add, top, top - 1, most},
		{"Add, just not too great", fix.Add, most - 1, 1, most},
		{"Add, too great by one", fix.Add, most, 1, most},
		{"Add, too great", fix.Add, most, 2, most},
		{"Add, too great", fix.Add, 2, most, most},
		{"Add, too great", fix.Add, most, most, most},
		{"Add, too great", fix.Add, top, top, most},
		{"Sub", fix.Sub, 5, 3, 2},
		{"Sub", fix.Sub, most, 1, most - 1},
		{"Sub, just not below 0", fix.Sub, 3, 3, 0},
		{"Sub, below 0 by one", fix.Sub, 2, 3, 0},
		{"Sub, below 0", fix.Sub, 0, most, 0},
		{"Sub, below 0", fix.Sub, top, most, 0},
		{"Mul", fix.Mul, 6, 7, 42},
		{"Mul", fix.Mul, most, 0, 0},
		{"Mul", fix.Mul, 0, most, 0},
		{"Mul", fix.Mul, most, 1, most},
		{"Mul, just not too great", fix.Mul, 1 << 32, 1<<32 - 1, 1<<64 - 1<<32},
		{"Mul, the greatest number itself", fix.Mul, 1<<32 - 1, 1<<32 + 1, most},
		{"Mul, too great by one", fix.Mul, 1 << 32, 1 << 32, most},
		{"Mul, too great", fix.Mul, 1 << 40, 1 << 40, most},
		{"Mul, too great", fix.Mul, most, most, most},
		{"Mul, too great", fix.Mul, top + 1, 2, most},
	} {
		if got := c.call(c.a, c.b); got != c.want {
			t.Errorf("%s(%d, %d): %d, want %d", c.name, c.a, c.b, got, c.want)
		}
	}
}

func TestMulDivByHand(t *testing.T) {
	for _, c := range []struct{ a, b, c, want uint64 }{
		{0, 0, 1, 0},
		{6, 7, 2, 21},
		{7, 3, 2, 10},
		{1, 1, 2, 0},
		{1, 99, 100, 0},
		{0, most, 3, 0},
		{most, 1, 1, most},
		{top, 6, 4, 3 << 62},
		{top, 2, 2, top},
		{most, most, most, most},
		{most, most - 1, most, most - 1},
		{top, 6, 3, most},
		{most, 2, 1, most},
		{most, most, 1, most},
		{most, most, most - 1, most},
		{1 << 32, 1 << 32, 1, most},
		{top, 4, 2, most},
		{top, 4, 3, 12297829382473034410},
	} {
		got, e := fix.MulDiv(c.a, c.b, c.c)
		if got != c.want || e != api.OK {
			t.Errorf("MulDiv(%d, %d, %d): %d, %d, want %d", c.a, c.b, c.c, got, e, c.want)
		}
	}
}

func TestMulDivByNought(t *testing.T) {
	for _, a := range edges() {
		for _, b := range edges() {
			if got, e := fix.MulDiv(a, b, 0); got != 0 || e != api.ErrArg {
				t.Fatalf("MulDiv(%d, %d, 0): %d, %d", a, b, got, e)
			}
		}
	}
}

func TestPercentByHand(t *testing.T) {
	for _, c := range []struct {
		a    uint64
		p    int
		want uint64
	}{
		{0, 0, 0},
		{0, math.MaxInt, 0},
		{200, 150, 500},
		{200, 0, 200},
		{200, 100, 400},
		{200, -1, 200},
		{200, -100, 200},
		{200, math.MinInt, 200},
		{199, 50, 298},
		{3, 50, 4},
		{1, 99, 1},
		{1, 100, 2},
		{99, 1, 99},
		{100, 1, 101},
		{top, 3, 9500073197960419082},
		{top, 99, 18354510353341003857},
		{top, 100, most},
		{most, 0, most},
		{most, -1, most},
		{most, 1, most},
		{most, math.MaxInt, most},
		{1, math.MaxInt, 92233720368547759},
		{100, math.MaxInt, top + 99},
	} {
		if got := fix.Percent(c.a, c.p); got != c.want {
			t.Errorf("Percent(%d, %d): %d, want %d", c.a, c.p, got, c.want)
		}
	}
}

func TestRatioAndScaleByHand(t *testing.T) {
	for _, c := range []struct {
		name string
		call func(a, b uint64) uint64
		a, b uint64
		want uint64
	}{
		{"Ratio", fix.Ratio, 1, 3, 21845},
		{"Ratio", fix.Ratio, 2, 3, 43690},
		{"Ratio", fix.Ratio, 3, 2, 98304},
		{"Ratio", fix.Ratio, 5, 5, 65536},
		{"Ratio", fix.Ratio, 0, 7, 0},
		{"Ratio, less than one 65536th", fix.Ratio, 1, 65537, 0},
		{"Ratio, of great numbers", fix.Ratio, most, most, 65536},
		{"Ratio, of great numbers", fix.Ratio, top, most, 32768},
		{"Ratio, just not too great", fix.Ratio, 1<<48 - 1, 1, 1<<64 - 1<<16},
		{"Ratio, too great by one", fix.Ratio, 1 << 48, 1, most},
		{"Ratio, too great", fix.Ratio, most, 1, most},
		{"Ratio, by 0", fix.Ratio, 1, 0, most},
		{"Ratio, by 0", fix.Ratio, 0, 0, most},
		{"Ratio, by 0", fix.Ratio, most, 0, most},
		{"Scale", fix.Scale, 3, 65536, 3},
		{"Scale", fix.Scale, 3, 32768, 1},
		{"Scale", fix.Scale, 3, 98304, 4},
		{"Scale", fix.Scale, 1, 65535, 0},
		{"Scale", fix.Scale, 0, most, 0},
		{"Scale", fix.Scale, most, 0, 0},
		{"Scale, the product isn't cut", fix.Scale, most, 65536, most},
		{"Scale, the product isn't cut", fix.Scale, most, 32768, top - 1},
		{"Scale, the product isn't cut", fix.Scale, 65536, most, most},
		{"Scale, too great", fix.Scale, most, 65537, most},
		{"Scale, too great", fix.Scale, most, most, most},
		{"Scale, too great by one", fix.Scale, top, 2 * 65536, most},
	} {
		if got := c.call(c.a, c.b); got != c.want {
			t.Errorf("%s(%d, %d): %d, want %d", c.name, c.a, c.b, got, c.want)
		}
	}
}

func TestPairsAgainstWideNumbers(t *testing.T) {
	one := wide(65536)
	for _, a := range edges() {
		for _, b := range edges() {
			product := new(big.Int).Mul(wide(a), wide(b))
			ratio := most
			if b != 0 {
				ratio = held(share(a, 65536, b))
			}
			for _, c := range []struct {
				name      string
				got, want uint64
			}{
				{"Add", fix.Add(a, b), held(new(big.Int).Add(wide(a), wide(b)))},
				{"Sub", fix.Sub(a, b), held(new(big.Int).Sub(wide(a), wide(b)))},
				{"Mul", fix.Mul(a, b), held(product)},
				{"Ratio", fix.Ratio(a, b), ratio},
				{"Scale", fix.Scale(a, b), held(new(big.Int).Quo(product, one))},
			} {
				if c.got != c.want {
					t.Errorf("%s(%d, %d): %d, want %d", c.name, a, b, c.got, c.want)
				}
			}
		}
	}
}

func TestMulDivAgainstWideNumbers(t *testing.T) {
	for _, a := range edges() {
		for _, b := range edges() {
			for _, c := range edges() {
				if c == 0 {
					continue
				}
				want := held(share(a, b, c))
				if got, e := fix.MulDiv(a, b, c); got != want || e != api.OK {
					t.Fatalf("MulDiv(%d, %d, %d): %d, %d, want %d", a, b, c, got, e, want)
				}
			}
		}
	}
}

func TestPercentAgainstWideNumbers(t *testing.T) {
	for _, a := range edges() {
		for _, p := range hundredths() {
			part := share(a, uint64(max(p, 0)), 100)
			want := held(part.Add(part, wide(a)))
			if got := fix.Percent(a, p); got != want {
				t.Errorf("Percent(%d, %d): %d, want %d", a, p, got, want)
			}
		}
	}
}

// answers are what all calls answer to three numbers.
func answers(a, b, c uint64) [8]uint64 {
	quotient, e := fix.MulDiv(a, b, c)
	return [8]uint64{fix.Add(a, b), fix.Sub(a, b), fix.Mul(a, b), quotient, uint64(e), fix.Percent(a, int(b)), fix.Ratio(a, b), fix.Scale(a, b)}
}

// A second walk, the other way round, would tell what a call had kept of those ahead of it.
func TestAnswersHangOnArgumentsAlone(t *testing.T) {
	type triple struct{ a, b, c uint64 }
	var asked []triple
	var first [][8]uint64
	for _, a := range edges() {
		for _, b := range edges() {
			for _, c := range []uint64{0, 1, 100, most} {
				asked = append(asked, triple{a, b, c})
				first = append(first, answers(a, b, c))
			}
		}
	}
	for i := len(asked) - 1; i >= 0; i-- {
		q := asked[i]
		if again := answers(q.a, q.b, q.c); again != first[i] {
			t.Fatalf("%v: %v, and then %v", q, first[i], again)
		}
	}
}

// A call that panics fails the test by itself; all numbers of 64 bits stand for any argument.
func FuzzCallsEnd(f *testing.F) {
	for _, n := range edges() {
		f.Add(n, most-n, n/2)
	}
	f.Fuzz(func(t *testing.T, a, b, c uint64) {
		got := answers(a, b, c)
		if got[0] < a || got[0] < b {
			t.Errorf("Add(%d, %d): %d", a, b, got[0])
		}
		if got[1] > a {
			t.Errorf("Sub(%d, %d): %d", a, b, got[1])
		}
		if got[5] < a {
			t.Errorf("Percent(%d, %d): %d", a, int(b), got[5])
		}
	})
}
