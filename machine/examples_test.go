package machine_test

import (
	"math/rand"
	"slices"
	"testing"

	"treadle/api"
	"treadle/draft"
)

// The ten examples of the whole are among the samples, but for the second one, whose run never ends; some are told here entry by entry.

func TestExample1(t *testing.T) {
	m := begin(t, wide(1), program(fun(0, kinds(num), cons(0, 7), show(0), ret())))
	for i, want := range [][]api.Event{nil, nil, prints(0, 7), exits(7)} {
		goesOn := m.Do(step(0, 0))
		if got := m.Trace(); !slices.Equal(got, want) || goesOn != (i < 3) || m.Ended() != (i == 3) || len(m.Moves()) != i {
			t.Errorf("behind %d steps: %v, %v, %v, %v", i+1, got, goesOn, m.Ended(), m.Moves())
		}
	}
}

func TestExample2(t *testing.T) {
	for seed := range int64(20) {
		choose := draft.Chooser(rand.New(rand.NewSource(seed)).Intn)
		r := newRig(t, config(choose), program(fun(0, kinds(num), do(api.OpJump, 0))))
		r.walk(choose, 300)
		if len(r.m.Trace()) != 0 || r.m.Ended() {
			t.Errorf("Trace: %v", r.m.Trace())
		}
	}
}

func TestExample3(t *testing.T) {
	m := begin(t, wide(2), program(fun(0, kinds(line(num), num, num), makeLine(0, 0), do(api.OpRecv, 1, 0, 2), ret())))
	for i, want := range []bool{true, true, false} {
		if got := m.Do(step(1, 0)); got != want {
			t.Errorf("behind %d steps: %v", i+1, got)
		}
	}
	if got := m.Trace(); !slices.Equal(got, []api.Event{event(api.EvDead, 0, 0)}) || m.State(0) != waits || m.Current(1) != -1 {
		t.Errorf("%v, %d, %d", got, m.State(0), m.Current(1))
	}
}

// Example 8, under every script: each processor acts, or the other one, as the bits of a number tell.
func TestExample8(t *testing.T) {
	p := program(
		fun(0, kinds(line(num), num, num), makeLine(0, 0), with(api.OpGo, 1, 0), do(api.OpRecv, 1, 0, 2), show(1), ret()),
		fun(1, kinds(line(num), num), cons(1, 1), do(api.OpSend, 0, 1), ret()))
	for script := range 1 << 12 {
		m := begin(t, api.Config{Procs: 2, Pages: 8, Gogc: 100}, p)
		for n := 0; n < 60 && !m.Ended(); n++ {
			m.Do(step(script>>(n%12)&1, 0))
		}
		// One processor alone may hold the goroutine for which the other one waits.
		for n := 0; n < 40 && !m.Ended(); n++ {
			m.Do(step(n, 0))
		}
		if got := m.Trace(); !slices.Equal(got, exits(1)) {
			t.Fatalf("by the script %b: %v, %v", script, got, m.Moves())
		}
	}
}

func TestExample10(t *testing.T) {
	m := begin(t, wide(1), program(fun(0, kinds(num), cons(0, 3), do(api.OpSleep, 0), show(0), ret())))
	for range 20 {
		m.Do(step(0, 0))
	}
	m.Do(entry(api.EnTick, 0, 1))
	for range 20 {
		m.Do(step(0, 0))
	}
	m.Do(entry(api.EnTick, 0, 0))
	if len(m.Trace()) != 0 || m.State(0) != waits {
		t.Errorf("%v, %d", m.Trace(), m.State(0))
	}
	// The processor takes it, and then it prints.
	m.Do(step(0, 0))
	if len(m.Trace()) != 0 || m.State(0) != ready {
		t.Errorf("%v, %d", m.Trace(), m.State(0))
	}
	m.Do(step(0, 0))
	if got := m.Trace(); !slices.Equal(got, prints(0, 3)) {
		t.Errorf("%v", got)
	}
}
