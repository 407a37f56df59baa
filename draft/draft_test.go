package draft_test

import (
	"math/rand"
	"reflect"
	"testing"

	"treadle/api"
	"treadle/draft"
	"treadle/verify"
)

// ops counts a program's instructions by what they do.
func ops(p api.Program, found map[int]int) {
	for _, f := range p.Funcs {
		for _, ins := range f.Code {
			found[ins.Op]++
		}
	}
}

// haveAll fails the test if an instruction wasn't found.
func haveAll(t *testing.T, found map[int]int) {
	t.Helper()
	for op := 1; op <= api.MaxOp; op++ {
		if found[op] == 0 {
			t.Errorf("no instruction %d", op)
		}
	}
}

func TestSamplesAreRight(t *testing.T) {
	found := map[int]int{}
	for _, s := range draft.Samples() {
		if fault := verify.Check(s.Program); fault != (api.Fault{}) {
			t.Errorf("%s: %v", s.Name, fault)
		}
		if last := len(s.Events) - 1; last < 0 || s.Events[last].Kind <= api.EvFloat {
			t.Errorf("%s: it doesn't end", s.Name)
		}
		ops(s.Program, found)
	}
	haveAll(t, found)
}

func TestWrittenProgramsAreRight(t *testing.T) {
	found := map[int]int{}
	for seed := range int64(500) {
		write := func() api.Program { return draft.Written(rand.New(rand.NewSource(seed)).Intn) }
		p := write()
		if fault := verify.Check(p); fault != (api.Fault{}) {
			t.Errorf("%d: %v", seed, fault)
		}
		if !reflect.DeepEqual(p, write()) {
			t.Errorf("%d: another program, where the same is chosen", seed)
		}
		ops(p, found)
	}
	haveAll(t, found)
}

func TestProgramsByBytesAreRight(t *testing.T) {
	for n := range 200 {
		text := make([]byte, 10*n)
		rand.New(rand.NewSource(int64(n))).Read(text)
		if fault := verify.Check(draft.Written(draft.ByBytes(text))); fault != (api.Fault{}) {
			t.Errorf("%d bytes: %v", len(text), fault)
		}
	}
}

func TestByBytes(t *testing.T) {
	choose := draft.ByBytes([]byte{7, 255, 0})
	for i, want := range []int{2, 55, 0, 0, 0} {
		if got := choose([]int{5, 100, 3, 9, 1}[i]); got != want {
			t.Errorf("%d: %d, want %d", i, got, want)
		}
	}
}

// A program with spare room is the same program; spoiled, nothing of it is left.
func TestRoomyAndSpoiled(t *testing.T) {
	for _, s := range draft.Samples() {
		p := draft.Roomy(s.Program)
		if fault := verify.Check(p); fault != (api.Fault{}) {
			t.Errorf("%s: %v", s.Name, fault)
		}
		before := draft.Whole(p)
		if len(before.Funcs) < len(p.Funcs)+3 || !reflect.DeepEqual(before, draft.Whole(p)) {
			t.Errorf("%s: there is no room", s.Name)
		}
		draft.Spoil(p)
		if verify.Check(p) == (api.Fault{}) || reflect.DeepEqual(before, draft.Whole(p)) {
			t.Errorf("%s: it isn't spoiled", s.Name)
		}
	}
}
