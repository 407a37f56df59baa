package ideal_test

import (
	"math"
	"math/rand"
	"slices"
	"testing"

	"treadle/api"
	"treadle/draft"
	"treadle/ideal"
	"treadle/verify"
)

// pair is a run beside a model of it.
type pair struct {
	t     testing.TB
	d     *ideal.Ideal
	m     *model
	moves []api.Move
}

func newPair(t testing.TB, p api.Program) *pair {
	t.Helper()
	if fault := verify.Check(p); fault != (api.Fault{}) {
		t.Fatalf("a program that is wrong: %v: %v", fault, p)
	}
	return &pair{t: t, d: begin(t, p).Ideal, m: newModel(p)}
}

// move tells both a move, and holds all that is told against the model; it answers whether the run goes on, and nothing is in doubt.
func (x *pair) move(move api.Move) bool {
	x.t.Helper()
	x.moves = append(x.moves, move)
	var got, want api.Errno
	if move.G == -1 {
		got, want = x.d.Tick(move.Choice), x.m.tick(move.Choice)
	} else {
		got, want = x.d.Step(move.G, move.Choice), x.m.step(move.G, move.Choice)
	}
	if x.m.doubt {
		return false
	}
	if got != want {
		x.t.Errorf("%v: %d, want %d", move, got, want)
	}
	x.tellAll()
	if x.t.Failed() {
		x.t.Fatalf("behind %v of %v", x.moves, x.m.p)
	}
	return !x.m.ended
}

// tellAll holds all that the run tells against the model.
func (x *pair) tellAll() {
	x.t.Helper()
	if got := x.d.Trace(); !slices.Equal(got, x.m.trace) || x.d.Ended() != x.m.ended || x.d.Gs() != len(x.m.fibers) {
		x.t.Errorf("%v, %v, %d, want %v, %v, %d", got, x.d.Ended(), x.d.Gs(), x.m.trace, x.m.ended, len(x.m.fibers))
	}
	for g, f := range x.m.fibers {
		ins, ok := x.d.Next(g)
		wantIns, wantOk := x.m.next(g)
		if x.d.State(g) != f.state || x.d.Frames(g) != len(f.levels) || ok != wantOk || !same(ins, wantIns) {
			x.t.Errorf("the goroutine %d: %d, %d, %v, %v, want %d, %d, %v, %v", g, x.d.State(g), x.d.Frames(g), ins, ok, f.state, len(f.levels), wantIns, wantOk)
		}
	}
	things, words := x.d.Reach()
	if n, w := x.m.reach(); things != n || words != w {
		x.t.Errorf("Reach: %d, %d, want %d, %d", things, words, n, w)
	}
}

// walk moves as it is chosen, mostly one that is ready, until the run has ended, or so many times.
func (x *pair) walk(choose draft.Chooser, most int) {
	x.t.Helper()
	for range most {
		move := api.Move{G: choose(len(x.m.fibers)), Choice: uint64(choose(16))}
		if choose(40) == 0 {
			move.Choice = math.MaxUint64 - move.Choice
		}
		for range len(x.m.fibers) {
			if x.m.fibers[move.G].state != api.GReady {
				move.G = (move.G + 1) % len(x.m.fibers)
			}
		}
		switch choose(64) {
		case 0, 1, 2:
			move = api.Move{G: -1, Choice: draft.Of[uint64](choose, 0, 1, 2, 3, api.MaxTicks)}
		case 3:
			move.G = draft.Of(choose, -2, len(x.m.fibers), least, greatest, 0, 1)
		}
		// A slice of several steps of one goroutine lets it come further.
		for range 1 + choose(6) {
			if !x.move(move) {
				return
			}
			if move.G < 0 || move.G >= len(x.m.fibers) || x.m.fibers[move.G].state != api.GReady {
				break
			}
		}
	}
}

func TestWalksAgainstTheModel(t *testing.T) {
	met, done := map[string]int{}, map[int]int{}
	for seed := range int64(1500) {
		choose := draft.Chooser(rand.New(rand.NewSource(seed)).Intn)
		x := newPair(t, draft.Written(choose))
		x.walk(choose, 120)
		for what, n := range x.m.met {
			met[what] += n
		}
		for _, e := range x.m.trace {
			done[e.Kind]++
		}
		x.m.close()
	}
	// The walks come by all that is worth it.
	for _, what := range []string{"recovered", "in the place", "refused", "slept", "select woken", "select ready", "handed", "taken", "closed", "woken by close"} {
		if met[what] < 20 {
			t.Errorf("%s: %d times", what, met[what])
		}
	}
	for kind, least := range map[int]int{api.EvPrint: 500, api.EvFloat: 100, api.EvExit: 20, api.EvPanic: 100, api.EvDead: 20} {
		if done[kind] < least {
			t.Errorf("the event %d: %d times", kind, done[kind])
		}
	}
}

func FuzzPrograms(f *testing.F) {
	for seed := range int64(20) {
		text := make([]byte, 2000)
		rand.New(rand.NewSource(seed)).Read(text)
		f.Add(text)
	}
	f.Fuzz(func(t *testing.T, text []byte) {
		choose := draft.ByBytes(text)
		x := newPair(t, draft.Written(choose))
		defer x.m.close()
		x.walk(choose, 100)
	})
}
