package pacer_test

import (
	"fmt"
	"math"
	"testing"

	"treadle/api"
	"treadle/pacer"
)

const most uint64 = math.MaxUint64

// words are those at the ends of a word, and around the numbers of which the chapter speaks.
func words() []uint64 {
	return []uint64{
		0, 1, 2, 3, 4, 5, 99, 100, 101, 127, 128, 129, 191, 192, 193, 255, 256, 257, 300, 1000, 65535, 65536, 65537,
		1 << 32, 1 << 44, 1<<62 - 1, 1 << 62, 3 << 62, 1<<63 - 1, 1 << 63, 1<<63 + 1, most - 4, most - 3, most - 2, most - 1, most,
	}
}

// hundredths are an int's ends, and around those of what New takes.
func hundredths() []int {
	return []int{math.MinInt, math.MinInt + 1, -100, -1, 0, 1, 2, 50, 99, 100, 101, 300, 1<<20 - 1, 1 << 20, 1<<20 + 1, 1 << 40, math.MaxInt - 1, math.MaxInt}
}

// made is a pacer of an empty heap.
func made(t testing.TB, gogc int, limit uint64) *pacer.Pacer {
	t.Helper()
	p := pacer.New(gogc, limit)
	if p == nil {
		t.Fatalf("New(%d, %d): nil", gogc, limit)
	}
	return p
}

// counts fails the test if the counts are others.
func counts(t testing.TB, p *pacer.Pacer, heap, goal, trigger, ratio uint64) {
	t.Helper()
	got := [4]uint64{}
	got[0], got[1], got[2], got[3] = p.Counts()
	if want := [4]uint64{heap, goal, trigger, ratio}; got != want {
		t.Errorf("Counts: %d, want %d", got, want)
	}
}

// due fails the test if Due answers the other one.
func due(t testing.TB, p *pacer.Pacer, want bool) {
	t.Helper()
	if got := p.Due(); got != want {
		t.Errorf("Due: %v, want %v", got, want)
	}
}

// owes fails the test if Owes(words) answers another number.
func owes(t testing.TB, p *pacer.Pacer, words, want uint64) {
	t.Helper()
	if got := p.Owes(words); got != want {
		t.Errorf("Owes(%d): %d, want %d", words, got, want)
	}
}

// limit fails the test if the limit is another one.
func limit(t testing.TB, p *pacer.Pacer, want uint64) {
	t.Helper()
	if got, e := p.Limit(); got != want || e != api.OK {
		t.Errorf("Limit: %d, %d, want %d", got, e, want)
	}
}

func TestExample(t *testing.T) {
	p := made(t, 100, 0)
	counts(t, p, 0, 256, 192, 0)
	p.Alloc(200)
	due(t, p, true)
	p.Begin()
	counts(t, p, 200, 256, 192, 235228)
	owes(t, p, 10, 36)
	p.End(300, 20)
	counts(t, p, 200, 620, 540, 0)
}

func TestNewByHand(t *testing.T) {
	for _, c := range []struct {
		gogc          int
		limit         uint64
		goal, trigger uint64
	}{
		{-1, 0, most, 3 << 62},
		{math.MinInt, 0, most, 3 << 62},
		{-1, most, most, 3 << 62},
		{-1, most - 1, most - 1, 3<<62 - 1},
		{-1, 1, 1, 1},
		{-1, 2, 2, 2},
		{-1, 3, 3, 3},
		{-1, 4, 4, 3},
		{-1, 5, 5, 4},
		{-1, 7, 7, 6},
		{-1, 8, 8, 6},
		{math.MinInt, 1000, 1000, 750},
		{0, 0, 256, 192},
		{1, 0, 256, 192},
		{100, 0, 256, 192},
		{1 << 20, 0, 256, 192},
		{1<<20 + 1, 0, 256, 192},
		{math.MaxInt, 0, 256, 192},
		{100, 1, 1, 1},
		{100, 4, 4, 3},
		{100, 255, 255, 192},
		{100, 256, 256, 192},
		{100, 257, 256, 192},
		{100, most, 256, 192},
	} {
		p := made(t, c.gogc, c.limit)
		counts(t, p, 0, c.goal, c.trigger, 0)
		limit(t, p, c.limit)
		due(t, p, false)
		if t.Failed() {
			t.Fatalf("New(%d, %d)", c.gogc, c.limit)
		}
	}
}

func TestGoalAndTriggerByHand(t *testing.T) {
	for _, c := range []struct {
		name          string
		gogc          int
		limit         uint64
		live, roots   uint64
		goal, trigger uint64
	}{
		{"of an empty heap", 100, 0, 0, 0, 256, 192},
		{"far below 256", 100, 0, 10, 5, 256, 195},
		{"just below 256", 100, 0, 127, 1, 256, 224},
		{"256 itself", 100, 0, 128, 0, 256, 224},
		{"just above 256", 100, 0, 128, 1, 257, 225},
		{"above 256", 100, 0, 300, 20, 620, 540},
		{"roots of which live knows nothing", 100, 0, 0, 300, 300, 225},
		{"a distance that 4 divides", 100, 0, 300, 0, 600, 525},
		{"a distance of 1 beyond", 100, 0, 300, 1, 601, 526},
		{"a distance of 2 beyond", 100, 0, 300, 2, 602, 527},
		{"a distance of 3 beyond", 100, 0, 300, 3, 603, 528},
		{"a distance that 4 divides again", 100, 0, 300, 4, 604, 528},
		{"gogc 0, below 256", 0, 0, 255, 9, 256, 256},
		{"gogc 0, 256", 0, 0, 256, 9, 256, 256},
		{"gogc 0, above 256", 0, 0, 257, 9, 257, 257},
		{"gogc 0, the greatest word", 0, 0, most, most, most, most},
		{"gogc 1, rounded down", 1, 0, 1000, 99, 1010, 1008},
		{"gogc 1, not rounded", 1, 0, 1000, 100, 1011, 1009},
		{"gogc just below 2^20", 1<<20 - 1, 0, 100000, 0, 1048675000, 786531250},
		{"gogc 2^20", 1 << 20, 0, 100000, 0, 1048676000, 786532000},
		{"gogc just above 2^20", 1<<20 + 1, 0, 100000, 0, 1048676000, 786532000},
		{"the greatest gogc", math.MaxInt, 0, 100000, 0, 1048676000, 786532000},
		{"no goal of its own", -1, 0, 100, 7, most, 13835058055282163737},
		{"no goal of its own, the least gogc", math.MinInt, 0, 100, 7, most, 13835058055282163737},
		{"no goal of its own, a limit below live", -1, 500, 501, 7, 501, 501},
		{"no goal of its own, a limit at live", -1, 500, 500, 7, 500, 500},
		{"no goal of its own, a limit above live", -1, 500, 300, 7, 500, 450},
		{"a limit below live", 100, 299, 300, 20, 300, 300},
		{"a limit far below live", 100, 1, 300, 20, 300, 300},
		{"a limit at live", 100, 300, 300, 20, 300, 300},
		{"a limit just above live", 100, 301, 300, 20, 301, 301},
		{"a limit between live and the goal", 100, 500, 300, 20, 500, 450},
		{"a limit just below the goal", 100, 619, 300, 20, 619, 540},
		{"a limit at the goal", 100, 620, 300, 20, 620, 540},
		{"a limit above the goal", 100, 621, 300, 20, 620, 540},
		{"a limit of the greatest word", 100, most, 300, 20, 620, 540},
		{"a limit below 256", 100, 100, 50, 0, 100, 88},
		{"a limit below live, that below 256", 100, 100, 120, 0, 120, 120},
		{"just not too great", 100, 0, 1<<63 - 1, 0, most - 1, 16140901064495857663},
		{"the greatest word itself", 100, 0, 1<<63 - 1, 1, most, 16140901064495857663},
		{"too great by one", 100, 0, 1 << 63, 0, most, 16140901064495857664},
		{"too great by far", 100, 0, most, most, most, most},
		{"live and roots too great, ahead of the hundredths", 10, 0, 1 << 62, most, 6456360425798343065, 5995191823955604275},
		{"a product beyond a word, that isn't cut", 1 << 20, 0, 1 << 50, 0, 11807042107080955658, 8855563055287427400},
		{"a product whose hundredths are too great", 1 << 20, 0, 1 << 51, 0, most, 13835621005235585024},
		{"a goal that is too great, with a limit", 100, 1<<63 + 40, 1 << 63, 0, 1<<63 + 40, 1<<63 + 30},
	} {
		p := made(t, c.gogc, c.limit)
		p.Alloc(77)
		p.End(c.live, c.roots)
		counts(t, p, 77, c.goal, c.trigger, 0)
		limit(t, p, c.limit)
		if t.Failed() {
			t.Fatalf("the goal: %s", c.name)
		}
	}
}

func TestAllocAndFree(t *testing.T) {
	p := made(t, -1, 0)
	heap := func(want uint64) {
		t.Helper()
		counts(t, p, want, most, 3<<62, 0)
	}
	p.Free(1)
	heap(0)
	p.Free(most)
	heap(0)
	p.Alloc(0)
	heap(0)
	p.Alloc(5)
	heap(5)
	p.Free(0)
	heap(5)
	p.Free(4)
	heap(1)
	p.Free(2)
	heap(0)
	p.Alloc(3)
	p.Free(3)
	heap(0)
	p.Alloc(most - 1)
	heap(most - 1)
	p.Alloc(1)
	heap(most)
	p.Alloc(1)
	heap(most)
	p.Alloc(most)
	heap(most)
	p.Free(3)
	heap(most - 3)
	p.Alloc(4)
	heap(most)
	p.Free(most - 1)
	heap(1)
	p.Free(most)
	heap(0)
}

// Due just below, at and above the trigger, whichever way the heap comes there.
func TestDue(t *testing.T) {
	for _, c := range []struct {
		gogc        int
		limit       uint64
		live, roots uint64
		trigger     uint64
	}{
		{100, 0, 0, 0, 192},
		{100, 0, 300, 20, 540},
		{0, 0, 300, 20, 300},
		{100, 1, 0, 0, 1},
		{-1, 0, 0, 0, 3 << 62},
		{-1, 0, most, 0, most},
	} {
		p := made(t, c.gogc, c.limit)
		p.End(c.live, c.roots)
		due(t, p, false)
		p.Alloc(c.trigger - 1)
		due(t, p, false)
		p.Alloc(1)
		due(t, p, true)
		p.Free(1)
		due(t, p, false)
		p.Alloc(100)
		due(t, p, true)
		p.Alloc(most)
		due(t, p, true)
		if t.Failed() {
			t.Fatalf("Due at %d", c.trigger)
		}
	}
}

// It is the heap and the trigger alone that count, whether a cycle has begun or not.
func TestDueBehindBeginAndEnd(t *testing.T) {
	p := made(t, 100, 0)
	p.Alloc(300)
	due(t, p, true)
	p.Begin()
	due(t, p, true)
	p.End(300, 0)
	due(t, p, false)
	p.Alloc(225)
	due(t, p, true)
	p.Begin()
	p.Free(1)
	due(t, p, false)
	p.End(100, 0)
	due(t, p, true)
}

func TestRatioByHand(t *testing.T) {
	for _, c := range []struct {
		name        string
		gogc        int
		live, roots uint64
		heap        uint64
		ratio       uint64
	}{
		{"of an empty heap", 100, 0, 0, 0, 65536},
		{"far below the goal", 100, 0, 0, 100, 65536},
		{"below the goal", 100, 0, 0, 200, 235228},
		{"just below the goal", 100, 0, 0, 255, 256*65536 + 1},
		{"at the goal", 100, 0, 0, 256, 257*65536 + 1},
		{"just above the goal", 100, 0, 0, 257, 258*65536 + 1},
		{"above the goal", 100, 0, 0, 1000, 1001*65536 + 1},
		{"with roots", 100, 300, 20, 500, 284536},
		{"with roots, at the goal", 100, 300, 20, 620, 641*65536 + 1},
		{"with roots alone", 0, 0, 1000, 0, 256257},
		{"as many words as there is room for", 100, 0, 54, 100, 65536},
		{"a word more than there is room for", 100, 0, 56, 100, 65957},
		{"just as much room", 100, 0, 55, 100, 65537},
		{"roots too great", -1, 0, most, 1 << 62, 87382},
		{"roots too great for the ratio", 0, 0, most, 100, most},
		{"no goal of its own", -1, 0, 0, 1 << 63, 65537},
		{"just below the greatest word", -1, 0, 0, most - 1, most},
		{"the greatest word", -1, 0, 0, most, most},
		{"the greatest word, far above the goal", 100, 0, 0, most, most},
	} {
		p := made(t, c.gogc, 0)
		p.End(c.live, c.roots)
		p.Alloc(c.heap)
		before := [3]uint64{}
		before[0], before[1], before[2], _ = p.Counts()
		p.Begin()
		counts(t, p, before[0], before[1], before[2], c.ratio)
		if t.Failed() {
			t.Fatalf("the ratio: %s", c.name)
		}
	}
}

// Around a ratio of 65536, with a goal that is the limit.
func TestLeastRatio(t *testing.T) {
	for _, c := range []struct{ limit, ratio uint64 }{{200, 66192}, {201, 65537}, {202, 65536}, {203, 65536}, {1000, 65536}} {
		p := made(t, -1, c.limit)
		p.Alloc(100)
		p.Begin()
		if _, _, _, ratio := p.Counts(); ratio != c.ratio {
			t.Errorf("the limit %d: the ratio %d, want %d", c.limit, ratio, c.ratio)
		}
	}
	// Ratio(65535, 65536) is 65535, and 1 makes it the least one by itself; Ratio(65537, 65536) is 65537.
	for _, c := range []struct{ heap, limit, ratio uint64 }{{65534, 131070, 65536}, {65536, 131072, 65538}} {
		p := made(t, -1, c.limit)
		p.Alloc(c.heap)
		p.Begin()
		counts(t, p, c.heap, c.limit, c.limit-c.limit/4, c.ratio)
	}
}

// The ratio stays as Begin has made it, till the next Begin or End.
func TestRatioStays(t *testing.T) {
	p := made(t, 100, 0)
	p.Alloc(200)
	p.Begin()
	p.Alloc(40)
	counts(t, p, 240, 256, 192, 235228)
	p.Free(100)
	counts(t, p, 140, 256, 192, 235228)
	owes(t, p, 10, 36)
	counts(t, p, 140, 256, 192, 235228)
	p.Begin()
	counts(t, p, 140, 256, 192, 79661)
	p.Alloc(116)
	p.Begin()
	counts(t, p, 256, 256, 192, 257*65536+1)
}

func TestOwesByHand(t *testing.T) {
	for _, c := range []struct {
		ratio       uint64
		words, want uint64
	}{
		{0, 0, 1}, {0, 1, 1}, {0, 65536, 1}, {0, most, 1},
		{65536, 0, 1}, {65536, 1, 2}, {65536, 10, 11}, {65536, most - 2, most - 1}, {65536, most - 1, most}, {65536, most, most},
		{235228, 0, 1}, {235228, 1, 4}, {235228, 2, 8}, {235228, 10, 36}, {235228, 1 << 62, 16552698955423547393}, {235228, 1 << 63, most}, {235228, most, most},
		{most, 0, 1}, {most, 1, 1 << 48}, {most, 2, 1 << 49}, {most, 65535, most - 1<<48 + 1}, {most, 65536, most}, {most, most, most},
	} {
		p := made(t, 100, 0)
		switch c.ratio {
		case 65536:
			p.Begin()
		case 235228:
			p.Alloc(200)
			p.Begin()
		case most:
			p.Alloc(most)
			p.Begin()
		}
		if _, _, _, ratio := p.Counts(); ratio != c.ratio {
			t.Fatalf("the ratio is %d, not %d", ratio, c.ratio)
		}
		owes(t, p, c.words, c.want)
		owes(t, p, c.words, c.want)
	}
}

func TestOwesBehindEnd(t *testing.T) {
	p := made(t, 100, 0)
	owes(t, p, 1000, 1)
	p.Alloc(200)
	owes(t, p, 1000, 1)
	p.Begin()
	owes(t, p, 1000, 3590)
	p.End(100, 1)
	for _, n := range words() {
		owes(t, p, n, 1)
	}
	p.Begin()
	owes(t, p, 1000, 3608)
}

// Each End takes the place of the one ahead; the heap is what was allocated and freed, whatever was live.
func TestEndAgain(t *testing.T) {
	p := made(t, 100, 0)
	p.End(300, 20)
	counts(t, p, 0, 620, 540, 0)
	p.Alloc(50)
	p.End(1000, 0)
	counts(t, p, 50, 2000, 1750, 0)
	p.End(0, 400)
	counts(t, p, 50, 400, 300, 0)
	p.Begin()
	counts(t, p, 50, 400, 300, 84448)
	p.End(0, 0)
	counts(t, p, 50, 256, 192, 0)
	p.Begin()
	counts(t, p, 50, 256, 192, 65536)
}

func TestNilPacer(t *testing.T) {
	var p *pacer.Pacer
	for _, x := range words() {
		p.Alloc(x)
		p.Free(x)
		p.Begin()
		p.End(x, most-x)
		owes(t, p, x, 0)
		due(t, p, false)
		counts(t, p, 0, 0, 0, 0)
		if n, e := p.Limit(); n != 0 || e != api.ErrState {
			t.Errorf("Limit: %d, %d", n, e)
		}
	}
}

func TestAllNumbersAgainstModel(t *testing.T) {
	for _, gogc := range hundredths() {
		for _, x := range words() {
			p := newPair(t, gogc, x)
			p.begin()
			for _, y := range words() {
				p.alloc(y)
				p.begin()
				p.end(y, x)
				p.begin()
				p.owes(x)
				p.free(x)
				p.end(x, y)
				p.begin()
				p.free(most)
			}
			if t.Failed() {
				t.Fatalf("New(%d, %d)", gogc, x)
			}
		}
	}
}

// A long walk of calls, which two pacers are told in turn, so that one would tell what is kept of the other's.
func TestLongWalkAgainstModel(t *testing.T) {
	seed := uint64(1)
	next := func(n int) int {
		seed = seed*6364136223846793005 + 1442695040888963407
		return int(seed >> 33 % uint64(n))
	}
	for _, gogc := range hundredths() {
		even, odd := newPair(t, gogc, 0), newPair(t, 100, 900)
		for i := range 2000 {
			p := even
			if i%2 == 1 {
				p = odd
			}
			x, y := uint64(next(400)), uint64(next(400))
			if next(50) == 0 {
				x = words()[next(len(words()))]
			}
			p.act(next(4), x, y)
			if t.Failed() {
				t.FailNow()
			}
		}
	}
}

// A second pacer that is told the same answers the same, though another one was told much between.
func TestAnswersHangOnWhatWasTold(t *testing.T) {
	first := walk(t)
	other := made(t, 50, 7)
	other.Alloc(9)
	if second := walk(t); second != first {
		t.Errorf("first %s, and then %s", first, second)
	}
	counts(t, other, 9, 7, 6, 0)
}

// walk is what a pacer answers to some calls.
func walk(t *testing.T) string {
	p := made(t, 70, 2000)
	told := ""
	for i := range uint64(40) {
		p.Alloc(i * 37 % 100)
		if p.Due() {
			p.Begin()
		}
		told += fmt.Sprint(" ", p.Due(), p.Owes(i))
		p.Free(i * 11 % 30)
		if i%7 == 6 {
			p.End(i*10, i)
		}
		heap, goal, trigger, ratio := p.Counts()
		told += fmt.Sprint(" ", heap, goal, trigger, ratio)
	}
	return told
}

// A call that panics fails the test by itself.
func FuzzCalls(f *testing.F) {
	for i, x := range words() {
		f.Add(hundredths()[i%len(hundredths())], x, i, x, most-x, i/2, uint64(i), x)
		f.Add(100, uint64(0), 0, x, x, 3, x/2, x/4)
	}
	f.Fuzz(func(t *testing.T, gogc int, limit uint64, call int, x, y uint64, second int, z, w uint64) {
		p := newPair(t, gogc, limit)
		p.act(int(uint(call)%4), x, y)
		p.begin()
		p.owes(z)
		p.act(int(uint(second)%4), z, w)
		p.begin()
		p.owes(x)
		p.act(int(uint(call)%4), w, z)
		p.begin()
		p.owes(y)
	})
}
