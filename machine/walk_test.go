package machine_test

import (
	"math"
	"math/rand"
	"testing"

	"treadle/api"
	"treadle/draft"
)

// config is a configuration, as it is chosen.
func config(choose draft.Chooser) api.Config {
	return api.Config{
		Procs: 1 + draft.Of(choose, 0, 0, 1, 1, 2, 3, 5, 7),
		Pages: draft.Of(choose, 3, 10, 30, 100, 500, 1000, api.MaxPages, api.MaxPages),
		Gogc:  draft.Of(choose, -1, -1, 0, 20, 100, 1000),
		Limit: draft.Of[uint64](choose, 0, 0, 0, 50, 500),
	}
}

// written is a program, as it is chosen; in every other one the frames have all slots that there may be, so that stacks are copied soon.
func written(choose draft.Chooser) api.Program {
	p := draft.Written(choose)
	if choose(2) == 0 {
		return p
	}
	for i := range p.Funcs {
		f := &p.Funcs[i]
		f.Slots = append(f.Slots, ints(api.MaxSlots-len(f.Slots))...)
	}
	return p
}

// anEntry is an entry, as it is chosen: mostly a step.
func anEntry(choose draft.Chooser) api.Entry {
	e := api.Entry{Kind: api.EnStep, P: choose(12) - 2, Arg: uint64(choose(1 << 11))}
	switch choose(20) {
	case 0:
		e.Kind = api.EnTick
	case 1:
		e.Kind = api.EnPreempt
	case 2, 3:
		e.Kind = api.EnWork
	case 4:
		e.Kind = api.EnCollect
	case 5:
		e.Kind = api.EnScav
	case 6:
		e.Kind = draft.Of(choose, api.EnScav+1, -1, least, greatest)
	}
	switch choose(40) {
	case 0:
		e.Arg = math.MaxUint64 - e.Arg
	case 1:
		e.P = draft.Of(choose, least, greatest)
	}
	return e
}

// walk tells entries as they are chosen, until the run has ended, or so many times. Now and then nothing but the collector acts, till its cycle has ended.
func (r *rig) walk(choose draft.Chooser, most int) {
	r.t.Helper()
	for range most {
		if choose(40) == 0 {
			r.collect()
		}
		e := anEntry(choose)
		// A slice of several steps of one processor lets its goroutine come further.
		for range 1 + choose(4) {
			if !r.do(e) {
				r.do(anEntry(choose))
				return
			}
		}
	}
}

func TestWalks(t *testing.T) {
	done, cycles, copied := map[int]int{}, 0, 0
	for seed := range int64(1200) {
		choose := draft.Chooser(rand.New(rand.NewSource(seed)).Intn)
		r := newRig(t, config(choose), written(choose))
		r.walk(choose, 150)
		for _, e := range r.m.Trace() {
			done[e.Kind]++
		}
		cycles += r.cycles
		copied += r.m.Stats().StackMove
	}
	// The walks come by all that is worth it.
	for kind, least := range map[int]int{api.EvPrint: 500, api.EvFloat: 100, api.EvExit: 10, api.EvPanic: 100, api.EvDead: 10, api.EvMemory: 100} {
		if done[kind] < least {
			t.Errorf("the event %d: %d times", kind, done[kind])
		}
	}
	if cycles < 3000 || copied < 100 {
		t.Errorf("%d cycles, %d copies", cycles, copied)
	}
}

func FuzzPrograms(f *testing.F) {
	for seed := range int64(20) {
		text := make([]byte, 3000)
		rand.New(rand.NewSource(seed)).Read(text)
		f.Add(text)
	}
	f.Fuzz(func(t *testing.T, text []byte) {
		choose := draft.ByBytes(text)
		r := newRig(t, config(choose), written(choose))
		r.walk(choose, 60)
	})
}
