package pacer_test

import (
	"math/big"
	"testing"

	"treadle/pacer"
)

func wide(n uint64) *big.Int { return new(big.Int).SetUint64(n) }

// held is a number of any size as the chapter of layer 1 holds it: between 0 and the greatest one.
func held(n *big.Int) uint64 {
	if n.Sign() < 0 {
		return 0
	}
	if !n.IsUint64() {
		return most
	}
	return n.Uint64()
}

func sum(a, b uint64) uint64 { return held(new(big.Int).Add(wide(a), wide(b))) }

func less(a, b uint64) uint64 { return held(new(big.Int).Sub(wide(a), wide(b))) }

// share is a * b / c, rounded down; a c of 0 gives the greatest number.
func share(a, b, c uint64) uint64 {
	if c == 0 {
		return most
	}
	product := new(big.Int).Mul(wide(a), wide(b))
	return held(product.Quo(product, wide(c)))
}

// pair is a pacer beside a model of it, which reckons with numbers of any size, anew for each answer; the ratio alone is kept.
type pair struct {
	t           testing.TB
	p           *pacer.Pacer
	gogc        int
	limit       uint64
	heap        uint64
	live, roots uint64
	ratio       uint64
}

func newPair(t testing.TB, gogc int, limit uint64) *pair {
	t.Helper()
	p := &pair{t: t, p: made(t, gogc, limit), gogc: gogc, limit: limit}
	p.tellAll()
	return p
}

// goal is the model's goal.
func (p *pair) goal() uint64 {
	goal := most
	if p.gogc >= 0 {
		hundredths := uint64(p.gogc)
		if hundredths > 1<<20 {
			hundredths = 1 << 20
		}
		goal = sum(p.live, share(sum(p.live, p.roots), hundredths, 100))
		if goal < 256 {
			goal = 256
		}
	}
	if p.limit == 0 {
		return goal
	}
	bound := p.limit
	if bound < p.live {
		bound = p.live
	}
	if goal > bound {
		return bound
	}
	return goal
}

// trigger is the model's trigger.
func (p *pair) trigger() uint64 {
	goal := p.goal()
	return less(goal, share(less(goal, p.live), 1, 4))
}

func (p *pair) alloc(words uint64) {
	p.t.Helper()
	p.heap = sum(p.heap, words)
	p.p.Alloc(words)
	p.tellAll()
}

func (p *pair) free(words uint64) {
	p.t.Helper()
	p.heap = less(p.heap, words)
	p.p.Free(words)
	p.tellAll()
}

func (p *pair) begin() {
	p.t.Helper()
	goal := p.goal()
	if goal <= p.heap {
		goal = sum(p.heap, 1)
	}
	p.ratio = sum(share(sum(sum(p.heap, p.roots), 1), 65536, less(goal, p.heap)), 1)
	if p.ratio < 65536 {
		p.ratio = 65536
	}
	p.p.Begin()
	p.tellAll()
}

func (p *pair) end(live, roots uint64) {
	p.t.Helper()
	p.live, p.roots, p.ratio = live, roots, 0
	p.p.End(live, roots)
	p.tellAll()
}

// owes fails the test if the pacer owes something else than the model.
func (p *pair) owes(words uint64) {
	p.t.Helper()
	owes(p.t, p.p, words, sum(share(words, p.ratio, 65536), 1))
}

// tellAll holds all that the pacer tells against the model.
func (p *pair) tellAll() {
	p.t.Helper()
	counts(p.t, p.p, p.heap, p.goal(), p.trigger(), p.ratio)
	due(p.t, p.p, p.heap >= p.trigger())
	limit(p.t, p.p, p.limit)
	for _, words := range []uint64{0, 1, 10, 1 << 40, most} {
		p.owes(words)
	}
}

// act does one of four calls.
func (p *pair) act(call int, x, y uint64) {
	p.t.Helper()
	switch call {
	case 0:
		p.alloc(x)
	case 1:
		p.free(x)
	case 2:
		p.begin()
	case 3:
		p.end(x, y)
	}
}
