package machine_test

import (
	"math/rand"
	"slices"
	"testing"

	"treadle/api"
	"treadle/draft"
)

// shows fails the test if other events are seen of a program than these, under scripts of all kinds, for one processor and for several. At each entry the run is held against layer 18 and the scheduler.
func shows(t *testing.T, name string, p api.Program, want []api.Event) {
	t.Helper()
	const most, pages = 20000, 1000
	for _, procs := range []int{1, 2, api.MaxProcs} {
		r := newRig(t, api.Config{Procs: procs, Pages: pages, Gogc: 100}, p)
		if got := r.finish(most); !slices.Equal(got, want) {
			t.Errorf("%s: on %d processors: %v, want %v", name, procs, got, want)
		}
	}
	for seed := range int64(3) {
		choose := draft.Chooser(rand.New(rand.NewSource(seed)).Intn)
		c := config(choose)
		c.Pages = pages
		r := newRig(t, c, p)
		r.walk(choose, most)
		if got := r.m.Trace(); !slices.Equal(got, want) {
			t.Errorf("%s: in the walk %d: %v, want %v", name, seed, got, want)
		}
	}
}

func TestSamples(t *testing.T) {
	for _, s := range draft.Samples() {
		// What prints for ever is held against layer 18 once: each entry takes longer than the one before.
		if len(s.Events) > 1000 {
			r := newRig(t, wide(1), s.Program)
			if got := r.finish(100000); !slices.Equal(got, s.Events) {
				t.Errorf("%s: %d events", s.Name, len(got))
			}
			continue
		}
		shows(t, s.Name, s.Program, s.Events)
	}
}
