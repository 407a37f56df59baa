package machine

import (
	"iter"
	"maps"
	"slices"
	"testing"

	"treadle/api"
	"treadle/draft"
	"treadle/heap"
)

// Where there is no room for the first stack, the run has ended in New already. New itself gives each heap a page at least, which is enough: so the heap is filled here.
func TestNewWithoutRoomForTheFirstStack(t *testing.T) {
	for pages := 1; pages <= 3; pages++ {
		room, _ := heap.New(api.Config{Procs: 2, Pages: pages})
		room.Pages(pages)
		m := newIn(room, 2, draft.Program(draft.Fun(0, draft.Kinds(draft.Num), draft.Show(0), draft.Ret())))
		want := []api.Event{draft.Event(api.EvMemory, 0, 0)}
		if !m.Ended() || !slices.Equal(m.Trace(), want) || len(m.Moves()) != 0 {
			t.Errorf("%v, %v, %v", m.Ended(), m.Trace(), m.Moves())
		}
		for kind := range api.EnScav + 1 {
			if m.Do(api.Entry{Kind: kind}) || !slices.Equal(m.Trace(), want) || len(m.Moves()) != 0 {
				t.Errorf("Do of the kind %d: %v, %v", kind, m.Trace(), m.Moves())
			}
		}
	}
}

// Channels that the heap has freed are forgotten, soon enough; and those that are kept are known.
func TestFreedChannelsAreForgotten(t *testing.T) {
	line := draft.Line(draft.Num)
	m, _ := New(api.Config{Procs: 1, Pages: api.MaxPages, Gogc: -1}, draft.Program(draft.Fun(0, draft.Kinds(line, line), draft.MakeLine(0, 16), draft.MakeLine(1, 16), draft.Do(api.OpJump, 1))))
	collect := func() {
		for m.heap.Start(); m.heap.Work(); {
		}
	}
	for range 10000 {
		m.Do(api.Entry{})
	}
	collect()
	for n := range 20000 {
		m.Do(api.Entry{})
		if n%200 == 0 {
			collect()
		}
	}
	if got := len(m.channels); got < 2 || got > 100+fewChannels || m.Ended() {
		t.Errorf("%d channels are known, %v", got, m.Trace())
	}
	for p := range m.channels {
		if f := m.gs[0].top(); p == int(m.slot(m.gs[0], f, 0)) {
			return
		}
	}
	t.Error("a channel that is kept isn't known")
}

// So is one in whose place there is another thing.
func TestAChannelInWhosePlaceThereIsAnArrayIsForgotten(t *testing.T) {
	line, array := draft.Line(draft.Num), draft.Ptr(draft.Nums)
	m, _ := New(api.Config{Procs: 1, Pages: api.MaxPages, Gogc: -1}, draft.Program(draft.Fun(0, draft.Kinds(line, array, draft.Num, line),
		draft.MakeLine(0, 0), draft.Const(2, 1), draft.Do(api.OpMove, 0, 3), draft.Do(api.OpNewArr, 1, draft.Nums, 2), draft.Do(api.OpJump, 4))))
	var was []int
	for n := range 6 {
		m.Do(api.Entry{})
		if n == 1 {
			was = slices.Collect(maps.Keys(m.channels))
		}
		if n == 3 {
			for m.heap.Start(); m.heap.Work(); {
			}
		}
	}
	is := int(m.slot(m.gs[0], m.gs[0].top(), 1))
	if !slices.Equal(was, []int{is}) || len(m.channels) > 0 {
		t.Errorf("a channel at %v, an array at %d: %v", was, is, m.channels)
	}
}

// Where what tells roots is left early, it tells no more: a loop over it may be left at each of them.
func TestRootsAreLeftEarly(t *testing.T) {
	node, line := draft.Ptr(draft.Node), draft.Line(draft.Ptr(draft.Node))
	m, _ := New(api.Config{Procs: 1, Pages: api.MaxPages, Gogc: -1}, draft.Program(
		draft.Fun(0, draft.Kinds(node, line, node), draft.Do(api.OpNew, 0, draft.Node), draft.Do(api.OpSet, draft.GNode, 0), draft.MakeLine(1, 3), draft.Do(api.OpSet, draft.GNodeLine, 1), draft.Do(api.OpSend, 1, 0), draft.Do(api.OpSend, 1, 2), draft.Do(api.OpSend, 1, 0),
			draft.With(api.OpDefer, 1, 0, 1), draft.With(api.OpDefer, 1, 2, 1), draft.With(api.OpCall, 2, 0, 2, 2), draft.Do(api.OpJump, 10)),
		draft.Fun(2, draft.Kinds(node, line), draft.Ret()),
		draft.Gives(0, draft.Kinds(node, node), draft.Kinds(node, node, node), draft.With(api.OpDefer, 3), draft.Do(api.OpNew, 0, draft.Node), draft.Ret(0, 1, 0)),
		draft.Fun(0, nil, draft.Do(api.OpJump, 0))))
	for range 20 {
		m.Do(api.Entry{})
	}
	c := m.channels[int(m.slot(m.gs[0], m.gs[0].frames[0], 1))]
	for name, told := range map[string]struct {
		seq  iter.Seq[int]
		want int
	}{"roots": {m.roots, 2 + 2 + 3 + 1 + 2}, "channel": {c.pointers, 2}} {
		if all := slices.Collect(told.seq); len(all) != told.want || slices.Contains(all, 0) {
			t.Errorf("%s: %v, want %d", name, all, told.want)
		}
		for most := 1; most <= told.want; most++ {
			n := 0
			for range told.seq {
				if n++; n == most {
					break
				}
			}
		}
	}
}

// What isn't the end of memory is thrown on.
func TestWhatIsNoEndOfMemoryIsThrownOn(t *testing.T) {
	m, _ := New(api.Config{Procs: 1, Pages: 1}, draft.Program(draft.Fun(0, nil, draft.Ret())))
	defer func() {
		if thrown := recover(); thrown != "other" || m.Ended() {
			t.Errorf("%v, %v", thrown, m.Trace())
		}
	}()
	m.whileMemory(0, func() { panic("other") })
}
