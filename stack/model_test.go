package stack_test

import (
	"fmt"
	"testing"

	"treadle/api"
	"treadle/stack"
)

// slot is a slot of the model: a word, or what it leads to. It stays what it is, wherever its frame's words may lie.
type slot struct {
	word uint64
	to   *slot
}

// pair is a stack beside a model of it: frames that are never copied, the last one first, and numbers of words and of copies that are worked out from their sizes. Each word that is written is told from all others.
type pair struct {
	t      testing.TB
	s      *stack.Stack
	frames [][]*slot
	words  int
	copies int
	word   uint64
}

func newPair(t testing.TB) *pair {
	t.Helper()
	return &pair{t: t, s: stack.New(), words: 64}
}

// taken is how many words the frames take.
func (p *pair) taken() int {
	n := len(p.frames)
	for _, f := range p.frames {
		n += len(f)
	}
	return n
}

// at is a slot of the model; nil, if there is none.
func (p *pair) at(below, i int) *slot {
	for b, f := range p.frames {
		for k, x := range f {
			if b == below && k == i {
				return x
			}
		}
	}
	return nil
}

// next is a word that was not written yet; some are so small that they could be places.
func (p *pair) next() uint64 {
	p.word++
	return p.word
}

// push lays a frame on both.
func (p *pair) push(slots int) {
	p.t.Helper()
	e := api.OK
	switch {
	case slots < 0 || slots > 32:
		e = api.ErrArg
	case len(p.frames) >= 64:
		e = api.ErrFull
	default:
		f := make([]*slot, slots)
		for i := range f {
			f[i] = &slot{}
		}
		p.frames = append([][]*slot{f}, p.frames...)
		was := p.words
		for p.taken() > p.words {
			p.words += p.words
		}
		if was != p.words {
			p.copies++
		}
	}
	want(p.t, fmt.Sprintf("Push(%d)", slots), p.s.Push(slots), e)
	p.tell()
}

// pop takes a frame from both.
func (p *pair) pop() {
	p.t.Helper()
	e := api.ErrNone
	if len(p.frames) > 0 {
		e = api.OK
		p.frames = p.frames[1:]
		if p.words > 64 && p.taken()*4 <= p.words {
			p.words /= 2
			p.copies++
		}
	}
	want(p.t, "Pop", p.s.Pop(), e)
	p.tell()
}

// set writes a new word into a slot of both.
func (p *pair) set(below, i int) {
	p.t.Helper()
	e, w := api.ErrNone, p.next()
	if x := p.at(below, i); x != nil {
		e, *x = api.OK, slot{word: w}
	}
	want(p.t, fmt.Sprintf("Set(%d, %d, %d)", below, i, w), p.s.Set(below, i, w), e)
	p.tell()
}

// link lets a slot of both lead to another one.
func (p *pair) link(below, i, to, k int) {
	p.t.Helper()
	x, y := p.at(below, i), p.at(to, k)
	e := api.OK
	switch {
	case x == nil || y == nil:
		e = api.ErrNone
	case to < below || x == y:
		e = api.ErrArg
	case y.to != nil:
		e = api.ErrKind
	default:
		*x = slot{to: y}
	}
	linkFails(p.t, p.s, below, i, to, k, e)
	p.tell()
}

// reached is the slot of the model to which a slot leads, or why there is none.
func (p *pair) reached(below, i int) (*slot, api.Errno) {
	x := p.at(below, i)
	if x == nil {
		return nil, api.ErrNone
	}
	if x.to == nil || x.to.to != nil {
		return nil, api.ErrKind
	}
	return x.to, api.OK
}

// store writes a new word where a slot of both leads to.
func (p *pair) store(below, i int) {
	p.t.Helper()
	w := p.next()
	x, e := p.reached(below, i)
	if x != nil {
		x.word = w
	}
	want(p.t, fmt.Sprintf("Store(%d, %d, %d)", below, i, w), p.s.Store(below, i, w), e)
	p.tell()
}

// tell holds the numbers of both against each other.
func (p *pair) tell() {
	p.t.Helper()
	counts(p.t, p.s, len(p.frames), p.words, p.copies)
}

// tellSlot holds what is told of a slot against the model; there may be none.
func (p *pair) tellSlot(below, i int) {
	p.t.Helper()
	x := p.at(below, i)
	switch {
	case x == nil:
		getFails(p.t, p.s, below, i, api.ErrNone)
	case x.to != nil:
		getFails(p.t, p.s, below, i, api.ErrKind)
	default:
		gets(p.t, p.s, below, i, x.word)
	}
	y, e := p.reached(below, i)
	if y != nil {
		loads(p.t, p.s, below, i, y.word)
	} else if got, now := p.s.Load(below, i); got != 0 || now != e {
		p.t.Errorf("Load(%d, %d): %d, %d, want 0, %d", below, i, got, now, e)
	}
}

// tellFrames holds all slots of the first frames against the model, and those beside them.
func (p *pair) tellFrames(frames int) {
	p.t.Helper()
	for below := range min(frames, len(p.frames)) {
		for i := -1; i <= len(p.frames[below]); i++ {
			p.tellSlot(below, i)
		}
	}
	p.tellSlot(-1, 0)
	p.tellSlot(len(p.frames), 0)
}

func (p *pair) tellNear() {
	p.t.Helper()
	p.tellFrames(4)
}

func (p *pair) tellAll() {
	p.t.Helper()
	p.tellFrames(len(p.frames))
}

// act does one of ten calls.
func (p *pair) act(call, a, b, c, d int) {
	p.t.Helper()
	switch call {
	case 0:
		p.push(b)
	case 1:
		p.pop()
	case 2, 3:
		p.set(a, b)
	case 4:
		p.link(a, b, a+c%3, d)
	case 5, 6:
		p.link(a, b, c, d)
	case 7:
		p.tellSlot(a, b)
	default:
		p.store(a, b)
	}
	p.tellSlot(a, b)
	p.tellSlot(c, d)
}

// shortCalls is how many calls short knows.
const shortCalls = 11

// short does one of eleven calls.
func (p *pair) short(call int) {
	p.t.Helper()
	switch call {
	case 0, 1, 2:
		p.push(call)
	case 3:
		p.pop()
	case 4:
		p.set(0, 0)
	case 5:
		p.set(1, 0)
	case 6:
		p.link(0, 0, 1, 0)
	case 7:
		p.link(0, 1, 0, 0)
	case 8:
		p.link(1, 0, 2, 0)
	case 9:
		p.store(0, 0)
	default:
		p.store(1, 0)
	}
}

// drain takes all frames away, and tells what stands near the end at times.
func (p *pair) drain() {
	p.t.Helper()
	for len(p.frames) > 0 {
		p.pop()
		p.tellNear()
	}
	p.pop()
}
