package ideal_test

import (
	"math/rand"
	"slices"
	"testing"

	"treadle/api"
	"treadle/draft"
)

// sampled lets goroutines that are ready go on, as it is chosen, and now and then the clock, till the run has ended, or so many times.
func (r run) sampled(choose draft.Chooser, most int) {
	r.t.Helper()
	for range most {
		var list []int
		for g := range r.Gs() {
			if r.State(g) == api.GReady {
				list = append(list, g)
			}
		}
		switch {
		case r.Ended():
			return
		case len(list) == 0 || choose(8) == 0:
			r.tick(uint64(1 + choose(8)))
		default:
			r.step(draft.Of(choose, list...), uint64(choose(8)))
		}
	}
}

// What is seen of the samples is the same under every schedule.
func TestSamples(t *testing.T) {
	for _, s := range draft.Samples() {
		for seed := range int64(3) {
			r := begin(t, s.Program)
			r.sampled(rand.New(rand.NewSource(seed)).Intn, 100000)
			if got := r.Trace(); !slices.Equal(got, s.Events) {
				t.Errorf("%s: %v, want %v; %v", s.Name, got, s.Events, s.Program.Funcs)
			}
		}
	}
}
