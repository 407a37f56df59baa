package stack_test

import (
	"fmt"
	"math"
	"strings"
	"testing"

	"treadle/api"
	"treadle/stack"
)

const most = math.MaxUint64

// numbers are an int's edges, and those of frames and slots.
func numbers() []int {
	return []int{
		math.MinInt, math.MinInt + 1, -api.StackMin, -2, -1,
		0, 1, 2, api.MaxSlots - 1, api.MaxSlots, api.MaxSlots + 1,
		api.MaxDepth - 1, api.MaxDepth, api.StackMax, math.MaxInt - 1, math.MaxInt,
	}
}

// want fails the test if a call's error is another one.
func want(t testing.TB, call string, got, e api.Errno) {
	t.Helper()
	if got != e {
		t.Errorf("%s: %d, want %d", call, got, e)
	}
}

// push lays frames of so many slots each.
func push(t testing.TB, s *stack.Stack, slots ...int) {
	t.Helper()
	for _, n := range slots {
		want(t, fmt.Sprintf("Push(%d)", n), s.Push(n), api.OK)
	}
}

// pushes lays so many frames of so many slots.
func pushes(t testing.TB, s *stack.Stack, frames, slots int) {
	t.Helper()
	for range frames {
		push(t, s, slots)
	}
}

// pop takes so many frames away.
func pop(t testing.TB, s *stack.Stack, frames int) {
	t.Helper()
	for range frames {
		want(t, "Pop", s.Pop(), api.OK)
	}
}

func set(t testing.TB, s *stack.Stack, below, i int, w uint64) {
	t.Helper()
	want(t, fmt.Sprintf("Set(%d, %d, %d)", below, i, w), s.Set(below, i, w), api.OK)
}

// gets fails the test if a slot isn't this word.
func gets(t testing.TB, s *stack.Stack, below, i int, w uint64) {
	t.Helper()
	if got, e := s.Get(below, i); got != w || e != api.OK {
		t.Errorf("Get(%d, %d): %d, %d, want %d", below, i, got, e, w)
	}
}

// getFails fails the test if Get comes to something else than this error.
func getFails(t testing.TB, s *stack.Stack, below, i int, want api.Errno) {
	t.Helper()
	if got, e := s.Get(below, i); got != 0 || e != want {
		t.Errorf("Get(%d, %d): %d, %d, want 0, %d", below, i, got, e, want)
	}
}

func link(t testing.TB, s *stack.Stack, below, i, to, k int) {
	t.Helper()
	linkFails(t, s, below, i, to, k, api.OK)
}

// linkFails fails the test if Link comes to something else than this error.
func linkFails(t testing.TB, s *stack.Stack, below, i, to, k int, e api.Errno) {
	t.Helper()
	want(t, fmt.Sprintf("Link(%d, %d, %d, %d)", below, i, to, k), s.Link(below, i, to, k), e)
}

// loads fails the test if a slot doesn't lead to this word.
func loads(t testing.TB, s *stack.Stack, below, i int, w uint64) {
	t.Helper()
	if got, e := s.Load(below, i); got != w || e != api.OK {
		t.Errorf("Load(%d, %d): %d, %d, want %d", below, i, got, e, w)
	}
}

func store(t testing.TB, s *stack.Stack, below, i int, w uint64) {
	t.Helper()
	want(t, fmt.Sprintf("Store(%d, %d, %d)", below, i, w), s.Store(below, i, w), api.OK)
}

// followFails fails the test if Load or Store comes to something else than this error.
func followFails(t testing.TB, s *stack.Stack, below, i int, e api.Errno) {
	t.Helper()
	if got, now := s.Load(below, i); got != 0 || now != e {
		t.Errorf("Load(%d, %d): %d, %d, want 0, %d", below, i, got, now, e)
	}
	want(t, fmt.Sprintf("Store(%d, %d, 5)", below, i), s.Store(below, i, 5), e)
}

// counts fails the test if there are other numbers of frames, of words or of copies.
func counts(t testing.TB, s *stack.Stack, frames, words, copies int) {
	t.Helper()
	f, w, c := s.Counts()
	if f != frames || w != words || c != copies {
		t.Errorf("Counts: %d, %d, %d, want %d, %d, %d", f, w, c, frames, words, copies)
	}
}

// tells is all that a stack tells, of slots that aren't there, too.
func tells(s *stack.Stack) string {
	frames, words, copies := s.Counts()
	text := fmt.Sprintln(frames, words, copies)
	for below := -1; below <= frames; below++ {
		for i := -1; i <= api.MaxSlots; i++ {
			g, e := s.Get(below, i)
			l, f := s.Load(below, i)
			text += fmt.Sprintln(below, i, g, e, l, f)
		}
	}
	return text
}

func TestExample(t *testing.T) {
	s := stack.New()
	push(t, s, 2)
	set(t, s, 0, 0, 7)
	push(t, s, 1)
	link(t, s, 0, 0, 1, 0)
	loads(t, s, 0, 0, 7)
	store(t, s, 0, 0, 8)
	gets(t, s, 1, 0, 8)
	getFails(t, s, 0, 0, api.ErrKind)
	counts(t, s, 2, 64, 0)
	pushes(t, s, 62, 1)
	counts(t, s, 64, 256, 2)
	loads(t, s, 62, 0, 8)
	linkFails(t, s, 1, 0, 0, 0, api.ErrArg)
}

func TestNew(t *testing.T) {
	s := stack.New()
	counts(t, s, 0, api.StackMin, 0)
	getFails(t, s, 0, 0, api.ErrNone)
	want(t, "Pop", s.Pop(), api.ErrNone)
	other := stack.New()
	push(t, other, 1)
	counts(t, s, 0, api.StackMin, 0)
	counts(t, other, 1, api.StackMin, 0)
}

func TestFramesOfEachSize(t *testing.T) {
	for n := range api.MaxSlots + 1 {
		s := stack.New()
		push(t, s, n)
		counts(t, s, 1, api.StackMin, 0)
		for i := range n {
			gets(t, s, 0, i, 0)
			set(t, s, 0, i, uint64(100+i))
		}
		for i := range n {
			gets(t, s, 0, i, uint64(100+i))
		}
		getFails(t, s, 0, -1, api.ErrNone)
		getFails(t, s, 0, n, api.ErrNone)
		pop(t, s, 1)
		counts(t, s, 0, api.StackMin, 0)
	}
}

// A frame takes a word more than it has slots: that tells how many of a size go into the words.
func TestHowManyFramesGoIntoTheWords(t *testing.T) {
	for n := range api.MaxSlots + 1 {
		s := stack.New()
		words, copies := api.StackMin, 0
		for frames := range api.MaxDepth {
			if (frames+1)*(n+1) > words {
				counts(t, s, frames, words, copies)
				words, copies = 2*words, copies+1
			}
			push(t, s, n)
			counts(t, s, frames+1, words, copies)
		}
		want(t, "Push", s.Push(n), api.ErrFull)
		counts(t, s, api.MaxDepth, words, copies)
	}
}

func TestWordsThatJustSuffice(t *testing.T) {
	s := stack.New()
	pushes(t, s, 2, 31)
	counts(t, s, 2, 64, 0)
	push(t, s, 0)
	counts(t, s, 3, 128, 1)
	pop(t, s, 1)
	pushes(t, s, 2, 31)
	counts(t, s, 4, 128, 1)
	push(t, s, 0)
	counts(t, s, 5, 256, 2)
	pop(t, s, 1)
	pushes(t, s, 4, 31)
	counts(t, s, 8, 256, 2)
	push(t, s, 31)
	counts(t, s, 9, 512, 3)
	pushes(t, s, 7, 31)
	counts(t, s, 16, 512, 3)
	push(t, s, 32)
	counts(t, s, 17, 1024, 4)
}

func TestOneWordTooFew(t *testing.T) {
	s := stack.New()
	push(t, s, 32, 29)
	counts(t, s, 2, 64, 0)
	push(t, s, 0)
	counts(t, s, 3, 64, 0)
	pop(t, s, 1)
	push(t, s, 1)
	counts(t, s, 3, 128, 1)
}

func TestMaxDepth(t *testing.T) {
	s := stack.New()
	pushes(t, s, api.MaxDepth, 0)
	counts(t, s, api.MaxDepth, api.StackMin, 0)
	for _, n := range []int{0, 1, api.MaxSlots} {
		want(t, "Push", s.Push(n), api.ErrFull)
	}
	counts(t, s, api.MaxDepth, api.StackMin, 0)
	pop(t, s, 1)
	push(t, s, 0)
	want(t, "Push", s.Push(0), api.ErrFull)
	pop(t, s, api.MaxDepth)
	counts(t, s, 0, api.StackMin, 0)
}

func TestStackMax(t *testing.T) {
	s := stack.New()
	pushes(t, s, 62, api.MaxSlots)
	counts(t, s, 62, 2048, 5)
	push(t, s, api.MaxSlots)
	counts(t, s, 63, api.StackMax, 6)
	push(t, s, api.MaxSlots)
	counts(t, s, api.MaxDepth, api.StackMax, 6)
	want(t, "Push", s.Push(api.MaxSlots), api.ErrFull)
	for below := range api.MaxDepth {
		set(t, s, below, api.MaxSlots-1, uint64(below))
	}
	for below := range api.MaxDepth {
		gets(t, s, below, api.MaxSlots-1, uint64(below))
	}
}

func TestPopDownToNoFrame(t *testing.T) {
	s := stack.New()
	pushes(t, s, api.MaxDepth, api.MaxSlots)
	words, copies := api.StackMax, 6
	// Behind this many frames' going there are half as many words.
	halves := map[int]int{31: 2048, 15: 1024, 7: 512, 3: 256, 1: 128, 0: 64}
	for left := api.MaxDepth - 1; left >= 0; left-- {
		pop(t, s, 1)
		if halves[left] != 0 {
			words, copies = halves[left], copies+1
		}
		counts(t, s, left, words, copies)
	}
	want(t, "Pop", s.Pop(), api.ErrNone)
	counts(t, s, 0, 64, 12)
}

func TestAQuarterOfTheWords(t *testing.T) {
	s := stack.New()
	pushes(t, s, 5, 31)
	counts(t, s, 5, 256, 2)
	pop(t, s, 2)
	counts(t, s, 3, 256, 2)
	pop(t, s, 1)
	counts(t, s, 2, 128, 3)
	pop(t, s, 1)
	counts(t, s, 1, 64, 4)
	pop(t, s, 1)
	counts(t, s, 0, 64, 4)
}

func TestAWordMoreThanAQuarter(t *testing.T) {
	s := stack.New()
	push(t, s, 32, 31)
	counts(t, s, 2, 128, 1)
	pop(t, s, 1)
	counts(t, s, 1, 128, 1)
	push(t, s, 32)
	counts(t, s, 2, 128, 1)
	pop(t, s, 2)
	counts(t, s, 0, 64, 2)
}

// Behind the third Pop a quarter of the halved words would be enough, too.
func TestHalfAsManyAndNoFewer(t *testing.T) {
	s := stack.New()
	push(t, s, 31, 32, 32, 32)
	counts(t, s, 4, 256, 2)
	pop(t, s, 2)
	counts(t, s, 2, 256, 2)
	pop(t, s, 1)
	counts(t, s, 1, 128, 3)
	pop(t, s, 1)
	counts(t, s, 0, 64, 4)
}

func TestNeverBelowStackMin(t *testing.T) {
	s := stack.New()
	push(t, s, 32, 0, 5)
	for left := 2; left >= 0; left-- {
		pop(t, s, 1)
		counts(t, s, left, api.StackMin, 0)
	}
	want(t, "Pop", s.Pop(), api.ErrNone)
	counts(t, s, 0, api.StackMin, 0)
}

func TestSlotsOfANewFrameAre0(t *testing.T) {
	for old := range api.MaxSlots + 1 {
		for n := range api.MaxSlots + 1 {
			s := stack.New()
			push(t, s, 3, old)
			for i := range old {
				set(t, s, 0, i, most)
			}
			pop(t, s, 1)
			push(t, s, n)
			for i := range n {
				gets(t, s, 0, i, 0)
			}
		}
	}
}

func TestSlotsOfNewFramesAre0WhereMoreThanOneLay(t *testing.T) {
	s := stack.New()
	for turn, size := range []int{api.MaxSlots, 5, 30, 0, 17} {
		for frames := range api.MaxDepth {
			push(t, s, size)
			for i := range size {
				gets(t, s, 0, i, 0)
				if (i+frames+turn)%3 == 0 && i > 0 {
					link(t, s, 0, i, 0, 0)
				} else {
					set(t, s, 0, i, most)
				}
			}
		}
		pop(t, s, api.MaxDepth)
	}
}

func TestSetAtTheFirstAndTheLastSlot(t *testing.T) {
	for _, size := range []int{1, 2, api.MaxSlots} {
		for _, frames := range []int{1, 2, api.MaxDepth} {
			s := stack.New()
			pushes(t, s, frames, size)
			// The words are told apart by frame and slot.
			value := func(below, i int) uint64 { return uint64(1 + 100*below + i) }
			ends := []int{0, size - 1}
			for _, below := range []int{0, frames - 1} {
				for _, i := range ends {
					set(t, s, below, i, value(below, i))
				}
			}
			for below := range frames {
				for i := range size {
					v := uint64(0)
					if (below == 0 || below == frames-1) && (i == 0 || i == size-1) {
						v = value(below, i)
					}
					gets(t, s, below, i, v)
				}
			}
		}
	}
}

func TestSetAgain(t *testing.T) {
	s := stack.New()
	push(t, s, 2)
	for _, w := range []uint64{most, 1, 1 << 63, 0, 64} {
		set(t, s, 0, 1, w)
		gets(t, s, 0, 1, w)
		gets(t, s, 0, 0, 0)
	}
}

func TestSetOfAReference(t *testing.T) {
	s := stack.New()
	push(t, s, 2)
	set(t, s, 0, 0, 7)
	link(t, s, 0, 1, 0, 0)
	set(t, s, 0, 1, 9)
	gets(t, s, 0, 1, 9)
	gets(t, s, 0, 0, 7)
	followFails(t, s, 0, 1, api.ErrKind)
	// What was a reference isn't told anew when the words are copied.
	push(t, s, 32, 31)
	counts(t, s, 3, 128, 1)
	gets(t, s, 2, 1, 9)
	followFails(t, s, 2, 1, api.ErrKind)
	link(t, s, 2, 0, 2, 1)
	loads(t, s, 2, 0, 9)
}

func TestLinkFromAFrameToOneFurtherBelow(t *testing.T) {
	s := stack.New()
	push(t, s, 1, 3, 0, 2, 1)
	set(t, s, 3, 2, 5)
	set(t, s, 4, 0, 6)
	link(t, s, 0, 0, 3, 2)
	link(t, s, 1, 0, 3, 2)
	link(t, s, 1, 1, 4, 0)
	loads(t, s, 0, 0, 5)
	loads(t, s, 1, 0, 5)
	loads(t, s, 1, 1, 6)
	store(t, s, 0, 0, 8)
	loads(t, s, 1, 0, 8)
	gets(t, s, 3, 2, 8)
	set(t, s, 3, 2, most)
	loads(t, s, 0, 0, most)
	loads(t, s, 1, 1, 6)
}

func TestLinkWithinAFrame(t *testing.T) {
	s := stack.New()
	push(t, s, 4, 3)
	for below, size := range []int{3, 4} {
		set(t, s, below, 1, uint64(10+below))
		link(t, s, below, 0, below, 1)
		link(t, s, below, size-1, below, 1)
		loads(t, s, below, 0, uint64(10+below))
		store(t, s, below, size-1, uint64(20+below))
		loads(t, s, below, 0, uint64(20+below))
		gets(t, s, below, 1, uint64(20+below))
	}
	loads(t, s, 0, 0, 20)
}

func TestLinkOfAReference(t *testing.T) {
	s := stack.New()
	push(t, s, 2, 1)
	set(t, s, 1, 0, 5)
	set(t, s, 1, 1, 6)
	link(t, s, 0, 0, 1, 0)
	link(t, s, 0, 0, 1, 1)
	loads(t, s, 0, 0, 6)
	store(t, s, 0, 0, 7)
	gets(t, s, 1, 0, 5)
	gets(t, s, 1, 1, 7)
	link(t, s, 0, 0, 1, 1)
	loads(t, s, 0, 0, 7)
}

func TestLinkToAReference(t *testing.T) {
	s := stack.New()
	push(t, s, 3, 1)
	link(t, s, 1, 1, 1, 0)
	linkFails(t, s, 0, 0, 1, 1, api.ErrKind)
	linkFails(t, s, 1, 2, 1, 1, api.ErrKind)
	linkFails(t, s, 1, 0, 1, 1, api.ErrKind)
	gets(t, s, 0, 0, 0)
	set(t, s, 1, 1, 4)
	link(t, s, 0, 0, 1, 1)
	loads(t, s, 0, 0, 4)
}

// A slot to which others lead may become a reference itself, and a word again.
func TestAReferenceToWhatBecomesAReference(t *testing.T) {
	s := stack.New()
	push(t, s, 2, 1, 1)
	set(t, s, 2, 0, 5)
	set(t, s, 2, 1, 6)
	link(t, s, 1, 0, 2, 1)
	link(t, s, 0, 0, 2, 1)
	link(t, s, 2, 1, 2, 0)
	followFails(t, s, 0, 0, api.ErrKind)
	followFails(t, s, 1, 0, api.ErrKind)
	getFails(t, s, 0, 0, api.ErrKind)
	loads(t, s, 2, 1, 5)
	push(t, s, 32, 31)
	counts(t, s, 5, 128, 1)
	followFails(t, s, 2, 0, api.ErrKind)
	loads(t, s, 4, 1, 5)
	set(t, s, 4, 1, 8)
	loads(t, s, 2, 0, 8)
	store(t, s, 3, 0, 9)
	loads(t, s, 2, 0, 9)
	gets(t, s, 4, 0, 5)
}

func TestStoreKeepsTheReference(t *testing.T) {
	s := stack.New()
	push(t, s, 2)
	link(t, s, 0, 0, 0, 1)
	for _, w := range []uint64{most, 0, 63, 1 << 63} {
		store(t, s, 0, 0, w)
		loads(t, s, 0, 0, w)
		gets(t, s, 0, 1, w)
		getFails(t, s, 0, 0, api.ErrKind)
	}
}

// tower is a stack of so many frames of so many slots, where each frame's first slot is a word, and its last one leads to the first slot of the frame at half its height.
func tower(t testing.TB, frames, size int) *stack.Stack {
	t.Helper()
	s := stack.New()
	for height := range frames {
		push(t, s, size)
		set(t, s, 0, 0, uint64(1000+height))
		link(t, s, 0, size-1, height-height/2, 0)
	}
	return s
}

func TestReferencesBehindCopiesGrowing(t *testing.T) {
	for _, size := range []int{2, 3, api.MaxSlots} {
		s := tower(t, api.MaxDepth, size)
		for height := range api.MaxDepth {
			loads(t, s, api.MaxDepth-1-height, size-1, uint64(1000+height/2))
		}
		for height := range api.MaxDepth {
			below := api.MaxDepth - 1 - height
			store(t, s, below, size-1, uint64(2000+height))
			gets(t, s, api.MaxDepth-1-height/2, 0, uint64(2000+height))
		}
	}
}

func TestReferencesBehindCopiesShrinking(t *testing.T) {
	for _, size := range []int{2, 3, api.MaxSlots} {
		s := tower(t, api.MaxDepth, size)
		for frames := api.MaxDepth; frames > 0; frames-- {
			for height := range frames {
				loads(t, s, frames-1-height, size-1, uint64(1000+height/2))
			}
			store(t, s, 0, size-1, uint64(1000+(frames-1)/2))
			pop(t, s, 1)
		}
		counts(t, s, 0, api.StackMin, map[int]int{2: 4, 3: 4, api.MaxSlots: 12}[size])
	}
}

func TestReferencesBehindManyCopies(t *testing.T) {
	s := stack.New()
	push(t, s, 2, 2)
	set(t, s, 1, 0, 7)
	link(t, s, 0, 0, 1, 0)
	link(t, s, 1, 1, 1, 0)
	for turn := range 100 {
		pushes(t, s, 62, api.MaxSlots)
		loads(t, s, 62, 0, uint64(7+2*turn))
		loads(t, s, 63, 1, uint64(7+2*turn))
		store(t, s, 62, 0, uint64(8+2*turn))
		pop(t, s, 62)
		loads(t, s, 0, 0, uint64(8+2*turn))
		store(t, s, 1, 1, uint64(9+2*turn))
		gets(t, s, 1, 0, uint64(9+2*turn))
		counts(t, s, 2, 64, 12*(turn+1))
	}
}

// Words that could be places stay as they are when the words are copied.
func TestWordsBehindCopies(t *testing.T) {
	s := stack.New()
	for height := range api.MaxDepth {
		push(t, s, api.MaxSlots)
		for i := range api.MaxSlots {
			set(t, s, 0, i, uint64(height*api.MaxSlots+i))
		}
	}
	for frames := api.MaxDepth; frames > 0; frames-- {
		for height := range frames {
			for _, i := range []int{0, 16, api.MaxSlots - 1} {
				gets(t, s, frames-1-height, i, uint64(height*api.MaxSlots+i))
			}
		}
		pop(t, s, 1)
	}
}

func TestAReferenceToAFrameThatStays(t *testing.T) {
	s := stack.New()
	push(t, s, 2, 2)
	set(t, s, 1, 1, 5)
	link(t, s, 0, 1, 1, 1)
	for above := range 60 {
		pushes(t, s, above, 1)
		for below := range above {
			link(t, s, below, 0, above+1, 1)
		}
		pop(t, s, above)
		loads(t, s, 0, 1, 5)
		gets(t, s, 1, 1, 5)
	}
	pop(t, s, 1)
	gets(t, s, 0, 1, 5)
}

func TestAFrameInThePlaceOfOneThatWent(t *testing.T) {
	for size := range api.MaxSlots + 1 {
		s := stack.New()
		push(t, s, 1, api.MaxSlots)
		for i := range api.MaxSlots {
			link(t, s, 0, i, 1, 0)
		}
		pop(t, s, 1)
		push(t, s, size)
		for i := range size {
			gets(t, s, 0, i, 0)
			followFails(t, s, 0, i, api.ErrKind)
		}
		for i := range size {
			set(t, s, 0, i, uint64(i))
			link(t, s, 0, i, 1, 0)
			loads(t, s, 0, i, 0)
		}
		gets(t, s, 1, 0, 0)
	}
}

// References of a frame that went must not be told anew by a copy, in which others' words lie in their places.
func TestCopiesBehindAFrameThatWent(t *testing.T) {
	s := stack.New()
	push(t, s, 1, 32)
	for i := range 32 {
		link(t, s, 0, i, 1, 0)
	}
	pop(t, s, 1)
	push(t, s, 29)
	for i := range 29 {
		set(t, s, 0, i, uint64(i))
	}
	pushes(t, s, 1, 32)
	counts(t, s, 3, 128, 1)
	for i := range 32 {
		gets(t, s, 0, i, 0)
	}
	for i := range 29 {
		gets(t, s, 1, i, uint64(i))
	}
}

func TestCountsBehindEachCall(t *testing.T) {
	s := stack.New()
	push(t, s, 2)
	counts(t, s, 1, 64, 0)
	push(t, s, 32, 31)
	counts(t, s, 3, 128, 1)
	set(t, s, 2, 0, 1)
	counts(t, s, 3, 128, 1)
	gets(t, s, 2, 0, 1)
	link(t, s, 0, 0, 2, 0)
	counts(t, s, 3, 128, 1)
	loads(t, s, 0, 0, 1)
	store(t, s, 0, 0, 2)
	counts(t, s, 3, 128, 1)
	pop(t, s, 3)
	counts(t, s, 0, 64, 2)
}

// wrong makes each wrong call of Push, and of slots that aren't there, by each number that is none.
func wrong(t testing.TB, s *stack.Stack) {
	t.Helper()
	for _, n := range numbers() {
		if n < 0 || n > api.MaxSlots {
			want(t, fmt.Sprintf("Push(%d)", n), s.Push(n), api.ErrArg)
		}
	}
	frames, _, _ := s.Counts()
	for _, below := range append(numbers(), frames) {
		for _, i := range numbers() {
			if below >= 0 && below < frames && i >= 0 && i < api.MaxSlots {
				continue
			}
			want(t, fmt.Sprintf("Set(%d, %d, 5)", below, i), s.Set(below, i, 5), api.ErrNone)
			getFails(t, s, below, i, api.ErrNone)
			followFails(t, s, below, i, api.ErrNone)
			linkFails(t, s, below, i, 0, 0, api.ErrNone)
			linkFails(t, s, 0, 0, below, i, api.ErrNone)
			linkFails(t, s, below, i, below, i, api.ErrNone)
		}
	}
}

func TestWrongInput(t *testing.T) {
	for _, frames := range []int{0, 1, 2, 31, 32, api.MaxDepth} {
		s := stack.New()
		for range frames {
			push(t, s, api.MaxSlots)
			set(t, s, 0, 0, 7)
			link(t, s, 0, api.MaxSlots-1, 0, 0)
		}
		before := tells(s)
		wrong(t, s)
		if tells(s) != before {
			t.Errorf("%d frames: a wrong call changed something", frames)
		}
	}
}

func TestSlotsOfTheFrameOnly(t *testing.T) {
	s := stack.New()
	push(t, s, 2, 0, 1)
	for below, size := range []int{1, 0, 2} {
		for _, i := range []int{-1, size, size + 1} {
			want(t, "Set", s.Set(below, i, 5), api.ErrNone)
			getFails(t, s, below, i, api.ErrNone)
			followFails(t, s, below, i, api.ErrNone)
			linkFails(t, s, below, i, 2, 0, api.ErrNone)
			linkFails(t, s, 0, 0, below, i, api.ErrNone)
		}
	}
	gets(t, s, 0, 0, 0)
	gets(t, s, 2, 0, 0)
	gets(t, s, 2, 1, 0)
}

func TestRefusedLinks(t *testing.T) {
	s := stack.New()
	push(t, s, 3, 3)
	link(t, s, 0, 2, 1, 0)
	link(t, s, 1, 2, 1, 0)
	before := tells(s)
	// The frame lies above.
	linkFails(t, s, 1, 0, 0, 0, api.ErrArg)
	linkFails(t, s, 1, 2, 0, 1, api.ErrArg)
	// Both are one slot.
	linkFails(t, s, 0, 0, 0, 0, api.ErrArg)
	linkFails(t, s, 1, 1, 1, 1, api.ErrArg)
	// It would lead to a reference.
	linkFails(t, s, 0, 0, 0, 2, api.ErrKind)
	linkFails(t, s, 0, 0, 1, 2, api.ErrKind)
	linkFails(t, s, 0, 2, 1, 2, api.ErrKind)
	if tells(s) != before {
		t.Error("a refused Link changed something")
	}
}

// Where two are wrong at once, the one counts that the chapter names first.
func TestOrderOfErrors(t *testing.T) {
	s := stack.New()
	want(t, "Push", s.Push(-1), api.ErrArg)
	pushes(t, s, api.MaxDepth, 2)
	want(t, "Push", s.Push(-1), api.ErrArg)
	want(t, "Push", s.Push(api.MaxSlots+1), api.ErrArg)
	want(t, "Push", s.Push(api.MaxSlots), api.ErrFull)
	link(t, s, 0, 0, 1, 0)
	link(t, s, 1, 1, 1, 0)
	before := tells(s)
	// A slot that isn't there, in a frame that lies above; twice one that isn't there; one that isn't there, to a reference.
	linkFails(t, s, 1, 2, 0, 1, api.ErrNone)
	linkFails(t, s, 1, 1, 0, 2, api.ErrNone)
	linkFails(t, s, 1, 1, -1, 0, api.ErrNone)
	linkFails(t, s, 0, 2, 0, 2, api.ErrNone)
	linkFails(t, s, 0, 2, 0, 0, api.ErrNone)
	linkFails(t, s, api.MaxDepth, 0, 0, 0, api.ErrNone)
	// A reference in a frame that lies above; a reference that is the same slot.
	linkFails(t, s, 1, 0, 0, 0, api.ErrArg)
	linkFails(t, s, 0, 0, 0, 0, api.ErrArg)
	linkFails(t, s, 1, 1, 1, 1, api.ErrArg)
	if tells(s) != before {
		t.Error("a refused call changed something")
	}
}

func TestNilStacks(t *testing.T) {
	var s *stack.Stack
	for _, a := range numbers() {
		want(t, "Push", s.Push(a), api.ErrState)
		for _, b := range numbers() {
			want(t, "Set", s.Set(a, b, 5), api.ErrState)
			getFails(t, s, a, b, api.ErrState)
			followFails(t, s, a, b, api.ErrState)
			linkFails(t, s, a, b, b, a, api.ErrState)
			linkFails(t, s, a, b, a, b, api.ErrState)
		}
	}
	want(t, "Pop", s.Pop(), api.ErrState)
	counts(t, s, 0, 0, 0)
}

func TestAnswersHangOnWhatWasTold(t *testing.T) {
	first := walk(t, nil)
	other := stack.New()
	pushes(t, other, api.MaxDepth, 7)
	again := walk(t, func() {
		other.Pop()
		other.Push(9)
		other.Set(0, 8, 3)
		other.Link(0, 0, 0, 8)
	})
	if first != again {
		t.Error("the same calls answered something else beside another stack")
	}
}

// walk is what a stack tells on a walk; something else may be done between.
func walk(t *testing.T, between func()) string {
	var text strings.Builder
	p := newPair(t)
	random := numbersFrom(5)
	for range 300 {
		p.act(random(10), random(40), random(33), random(64), random(33))
		if between != nil {
			between()
		}
		text.WriteString(tells(p.s))
	}
	return text.String()
}

// numbersFrom is a row of numbers below what is asked each time, that hangs on the seed alone.
func numbersFrom(seed uint64) func(n int) int {
	return func(n int) int {
		seed = seed*6364136223846793005 + 1442695040888963407
		return int(seed >> 33 % uint64(n))
	}
}

// starts are stacks from which the short rows begin: with words enough, with words that just suffice, and with frames whose going leads to half as many.
func starts() [][]int {
	return [][]int{
		nil,
		{1, 0},
		{31, 2, 26},
		{32, 31, 0},
	}
}

func TestEachShortRowOfCalls(t *testing.T) {
	const length = 4
	rows := 1
	for range length {
		rows *= shortCalls
	}
	for _, sizes := range starts() {
		for row := range rows {
			p := newPair(t)
			for _, n := range sizes {
				p.push(n)
			}
			for rest, i := row, 0; i < length; rest, i = rest/shortCalls, i+1 {
				p.short(rest % shortCalls)
			}
			p.tellNear()
			if t.Failed() {
				t.Fatalf("frames %v, row %d", sizes, row)
			}
		}
	}
}

// The walks climb and go down, over frames of few slots and of many.
func TestLongWalk(t *testing.T) {
	for seed := range 12 {
		random := numbersFrom(uint64(seed))
		p := newPair(t)
		size := []int{2, 6, api.MaxSlots + 1}[seed%3]
		for i := range 1500 {
			call := random(10)
			if i/100%2 == 0 && call == 1 {
				call = 0
			}
			if i/100%2 == 1 && call == 0 {
				call = 1
			}
			p.act(call, random(2+random(api.MaxDepth)), random(size), random(2+random(api.MaxDepth)), random(size))
			if i%50 == 0 {
				p.tellAll()
			}
		}
		p.tellAll()
		p.drain()
		if t.Failed() {
			t.Fatalf("seed %d", seed)
		}
	}
}

func FuzzCalls(f *testing.F) {
	f.Add([]byte{0, 0, 2, 0, 0, 2, 0, 0, 7, 0, 0, 0, 1, 0, 0, 4, 0, 0, 1, 0})
	f.Add([]byte{0, 0, 32, 0, 0, 0, 0, 31, 0, 0, 4, 0, 1, 1, 1, 1, 0, 0, 0, 0})
	f.Fuzz(func(t *testing.T, calls []byte) {
		p := newPair(t)
		for len(calls) >= 5 {
			c := calls
			calls = calls[5:]
			p.act(int(c[0]%10), int(int8(c[1])), int(int8(c[2])), int(int8(c[3])), int(int8(c[4])))
		}
		p.tellAll()
		p.drain()
	})
}
