package mark_test

import (
	"fmt"
	"math"
	"slices"
	"strings"
	"testing"

	"treadle/api"
	"treadle/mark"
)

// numbers are an int's edges, and those of fields, objects and roots.
func numbers() []int {
	return []int{
		math.MinInt, math.MinInt + 1, -api.MaxObject, -2, -1,
		0, 1, 2, 3, api.MaxFields - 1, api.MaxFields, api.MaxFields + 1,
		api.MaxObject - 1, api.MaxObject, api.MaxObject + 1, math.MaxInt - 1, math.MaxInt,
	}
}

// want fails the test if a call's error is another one. (Helper is slow, and there are many calls: so it is called where one fails.)
func want(t testing.TB, call string, got, e api.Errno) {
	if got != e {
		t.Helper()
		t.Errorf("%s: %d, want %d", call, got, e)
	}
}

// add makes objects of so many fields each, and answers the last one's number.
func add(t testing.TB, g *mark.Graph, fields ...int) int {
	t.Helper()
	last := 0
	for _, n := range fields {
		id, e := g.Add(n)
		if e != api.OK || id <= last {
			t.Errorf("Add(%d): %d, %d, want more than %d", n, id, e, last)
		}
		last = id
	}
	return last
}

// addFails fails the test if Add comes to something else than this error.
func addFails(t testing.TB, g *mark.Graph, fields int, want api.Errno) {
	if id, e := g.Add(fields); id != 0 || e != want {
		t.Helper()
		t.Errorf("Add(%d): %d, %d, want 0, %d", fields, id, e, want)
	}
}

// drop lets the roots at these places go, one behind the other.
func drop(t testing.TB, g *mark.Graph, places ...int) {
	t.Helper()
	for _, at := range places {
		want(t, fmt.Sprintf("Drop(%d)", at), g.Drop(at), api.OK)
	}
}

func root(t testing.TB, g *mark.Graph, id, field int) {
	t.Helper()
	rootFails(t, g, id, field, api.OK)
}

// rootFails fails the test if Root comes to something else than this error.
func rootFails(t testing.TB, g *mark.Graph, id, field int, e api.Errno) {
	t.Helper()
	want(t, fmt.Sprintf("Root(%d, %d)", id, field), g.Root(id, field), e)
}

func set(t testing.TB, g *mark.Graph, id, field, to int) {
	t.Helper()
	setFails(t, g, id, field, to, api.OK)
}

// setFails fails the test if Set comes to something else than this error.
func setFails(t testing.TB, g *mark.Graph, id, field, to int, e api.Errno) {
	t.Helper()
	want(t, fmt.Sprintf("Set(%d, %d, %d)", id, field, to), g.Set(id, field, to), e)
}

// gets fails the test if a field leads to something else.
func gets(t testing.TB, g *mark.Graph, id, field, to int) {
	if got, e := g.Get(id, field); got != to || e != api.OK {
		t.Helper()
		t.Errorf("Get(%d, %d): %d, %d, want %d", id, field, got, e, to)
	}
}

// getFails fails the test if Get comes to something else than this error.
func getFails(t testing.TB, g *mark.Graph, id, field int, want api.Errno) {
	if got, e := g.Get(id, field); got != 0 || e != want {
		t.Helper()
		t.Errorf("Get(%d, %d): %d, %d, want 0, %d", id, field, got, e, want)
	}
}

func start(t testing.TB, g *mark.Graph) {
	t.Helper()
	want(t, "Start", g.Start(), api.OK)
}

// work fails the test if pieces of work, one behind the other, don't answer these objects.
func work(t testing.TB, g *mark.Graph, freed ...int) {
	t.Helper()
	for _, id := range freed {
		if got, e := g.Work(); got != id || e != api.OK {
			t.Errorf("Work: %d, %d, want %d", got, e, id)
		}
	}
}

// marks fails the test if marking doesn't end with the last one of so many pieces of work.
func marks(t testing.TB, g *mark.Graph, pieces int) {
	t.Helper()
	for left := range pieces {
		phase(t, g, mark.Marking)
		work(t, g, 0)
		if t.Failed() {
			t.Fatalf("the piece %d of %d", left, pieces)
		}
	}
	phase(t, g, mark.Sweeping)
}

// sweeps fails the test if sweeping doesn't free these objects and no more, and end the cycle behind them.
func sweeps(t testing.TB, g *mark.Graph, freed ...int) {
	t.Helper()
	for _, id := range append(freed, 0) {
		phase(t, g, mark.Sweeping)
		work(t, g, id)
	}
	phase(t, g, mark.Off)
	for _, id := range freed {
		has(t, g, false, id)
	}
}

// rest goes on with the cycle to its end and fails the test if it frees other objects.
func rest(t testing.TB, g *mark.Graph, freed ...int) {
	t.Helper()
	var got []int
	for {
		if phase, _, _ := g.Counts(); phase == mark.Off {
			break
		}
		id, e := g.Work()
		want(t, "Work", e, api.OK)
		if id != 0 {
			got = append(got, id)
		}
	}
	if !slices.Equal(got, freed) {
		t.Errorf("freed %v, want %v", got, freed)
	}
	has(t, g, false, freed...)
}

// cycle fails the test if a whole cycle frees other objects.
func cycle(t testing.TB, g *mark.Graph, freed ...int) {
	t.Helper()
	start(t, g)
	rest(t, g, freed...)
}

func phase(t testing.TB, g *mark.Graph, want int) {
	if got, _, _ := g.Counts(); got != want {
		t.Helper()
		t.Errorf("phase %d, want %d", got, want)
	}
}

// counts fails the test if there is another phase, or other numbers of cycles or of objects.
func counts(t testing.TB, g *mark.Graph, phase, cycles, objects int) {
	p, c, o := g.Counts()
	if p != phase || c != cycles || o != objects {
		t.Helper()
		t.Errorf("Counts: %d, %d, %d, want %d, %d, %d", p, c, o, phase, cycles, objects)
	}
}

func has(t testing.TB, g *mark.Graph, want bool, ids ...int) {
	for _, id := range ids {
		if g.Has(id) != want {
			t.Helper()
			t.Errorf("Has(%d): %t", id, !want)
		}
	}
}

func roots(t testing.TB, g *mark.Graph, want ...int) {
	if got := g.Roots(); !slices.Equal(got, want) {
		t.Helper()
		t.Errorf("Roots: %v, want %v", got, want)
	}
}

// tells is all that a graph tells, of objects and fields that aren't there, too.
func tells(g *mark.Graph) string {
	phase, cycles, objects := g.Counts()
	text := fmt.Sprintln(phase, cycles, objects, g.Roots())
	for _, id := range append([]int{-1, 0, api.MaxObject, api.MaxObject + 1}, g.Roots()...) {
		for field := -1; field <= api.MaxFields; field++ {
			to, e := g.Get(id, field)
			text += fmt.Sprint(id, field, to, e, ";")
		}
	}
	for id := range 64 {
		text += fmt.Sprint(g.Has(id))
	}
	return text
}

func TestExample(t *testing.T) {
	g := mark.New()
	for i, fields := range []int{1, 0} {
		if id := add(t, g, fields); id != i+1 {
			t.Errorf("Add(%d): %d", fields, id)
		}
	}
	set(t, g, 1, 0, 2)
	drop(t, g, 1)
	if id := add(t, g, 0); id != 3 {
		t.Errorf("Add(0): %d", id)
	}
	drop(t, g, 1)
	cycle(t, g, 3)
	getFails(t, g, 2, 0, api.ErrNone)
	root(t, g, 1, 0)
	roots(t, g, 1, 2)
	counts(t, g, mark.Off, 1, 2)
	has(t, g, true, 1, 2)
}

func TestPhases(t *testing.T) {
	if mark.Off != 0 || mark.Marking != 1 || mark.Sweeping != 2 {
		t.Errorf("%d, %d, %d", mark.Off, mark.Marking, mark.Sweeping)
	}
}

func TestNew(t *testing.T) {
	g := mark.New()
	counts(t, g, mark.Off, 0, 0)
	roots(t, g)
	has(t, g, false, numbers()...)
	addFails(t, g, -1, api.ErrArg)
	want(t, "Drop(0)", g.Drop(0), api.ErrArg)
	start(t, g)
	marks(t, g, 1)
	sweeps(t, g)
	counts(t, g, mark.Off, 1, 0)
	if id := add(t, g, 0); id != 1 {
		t.Errorf("Add(0): %d", id)
	}
}

func TestObjectsOfEachSize(t *testing.T) {
	g := mark.New()
	for n := range api.MaxFields + 1 {
		id := add(t, g, n)
		if id != n+1 {
			t.Errorf("Add(%d): %d", n, id)
		}
		for field := range n {
			gets(t, g, id, field, 0)
			rootFails(t, g, id, field, api.ErrNone)
			set(t, g, id, field, id)
		}
		for _, field := range []int{-1, n, n + 1} {
			getFails(t, g, id, field, api.ErrArg)
			rootFails(t, g, id, field, api.ErrArg)
			setFails(t, g, id, field, 0, api.ErrArg)
			setFails(t, g, id, field, id, api.ErrArg)
		}
		for field := range n {
			gets(t, g, id, field, id)
		}
		counts(t, g, mark.Off, 0, n+1)
	}
	addFails(t, g, api.MaxFields+1, api.ErrArg)
	counts(t, g, mark.Off, 0, api.MaxFields+1)
}

// Each field of an object leads to another one, and holds it.
func TestEachFieldIsItsOwn(t *testing.T) {
	g := mark.New()
	one := add(t, g, api.MaxFields)
	for field := range api.MaxFields {
		set(t, g, one, field, add(t, g, 0))
		drop(t, g, 1)
	}
	cycle(t, g)
	for field := range api.MaxFields {
		gets(t, g, one, field, field+2)
	}
	for i := range api.MaxFields {
		field := (i*7 + 3) % api.MaxFields
		set(t, g, one, field, 0)
		cycle(t, g, field+2)
		gets(t, g, one, field, 0)
	}
	counts(t, g, mark.Off, api.MaxFields+1, 1)
}

func TestNumbersAreNeverUsedAgain(t *testing.T) {
	g := mark.New()
	for i := range 10 {
		if id := add(t, g, i); id != i+1 {
			t.Errorf("Add(%d): %d, want %d", i, id, i+1)
		}
		drop(t, g, 0)
		if i%3 == 0 {
			start(t, g)
			rest(t, g, unlike0(i-1, i, i+1)...)
			has(t, g, false, i, i+1)
		}
	}
	counts(t, g, mark.Off, 4, 0)
	roots(t, g)
	if id := add(t, g, 0); id != 11 {
		t.Errorf("Add(0): %d, want 11", id)
	}
}

// unlike0 are those numbers that are above 0.
func unlike0(ids ...int) []int {
	return slices.DeleteFunc(ids, func(id int) bool { return id <= 0 })
}

func TestMaxObject(t *testing.T) {
	g := mark.New()
	for id := 1; id <= api.MaxObject; id++ {
		if got := add(t, g, 1); got != id {
			t.Fatalf("Add(1): %d, want %d", got, id)
		}
	}
	addFails(t, g, 1, api.ErrFull)
	addFails(t, g, 0, api.ErrFull)
	counts(t, g, mark.Off, 0, api.MaxObject)
	has(t, g, true, 1, api.MaxObject)
	has(t, g, false, 0, api.MaxObject+1)
	if got := g.Roots(); len(got) != api.MaxObject || got[0] != 1 || got[api.MaxObject-1] != api.MaxObject {
		t.Errorf("%d roots", len(got))
	}
	set(t, g, api.MaxObject, 0, 1)
	rootFails(t, g, api.MaxObject, 0, api.ErrFull)
	// So many were made, also when there are fewer.
	for range api.MaxObject {
		drop(t, g, 0)
	}
	addFails(t, g, 1, api.ErrFull)
	start(t, g)
	marks(t, g, 1)
	for id := 1; id <= api.MaxObject; id++ {
		work(t, g, id)
		addFails(t, g, 1, api.ErrFull)
	}
	counts(t, g, mark.Sweeping, 0, 0)
	work(t, g, 0)
	counts(t, g, mark.Off, 1, 0)
	addFails(t, g, 0, api.ErrFull)
	has(t, g, false, 1, api.MaxObject)
}

// Of a chain of MaxObject objects each one is gone through.
func TestAChainOfMaxObject(t *testing.T) {
	g := mark.New()
	add(t, g, 1)
	for id := 2; id <= api.MaxObject; id++ {
		add(t, g, 1)
		set(t, g, id, 0, id-1)
		drop(t, g, 0)
	}
	start(t, g)
	marks(t, g, 1+api.MaxObject+1)
	sweeps(t, g)
	counts(t, g, mark.Off, 1, api.MaxObject)
	roots(t, g, api.MaxObject)
	for id := api.MaxObject; id > 1; id-- {
		root(t, g, id, 0)
		drop(t, g, 0)
		roots(t, g, id-1)
	}
	start(t, g)
	marks(t, g, 1+1+1)
	for id := 2; id <= api.MaxObject; id++ {
		work(t, g, id)
	}
	sweeps(t, g)
	counts(t, g, mark.Off, 2, 1)
}

func TestMaxObjectRoots(t *testing.T) {
	g := mark.New()
	add(t, g, 1)
	set(t, g, 1, 0, 1)
	for range api.MaxObject - 1 {
		root(t, g, 1, 0)
	}
	rootFails(t, g, 1, 0, api.ErrFull)
	if got := g.Roots(); len(got) != api.MaxObject {
		t.Errorf("%d roots", len(got))
	}
	drop(t, g, 7)
	root(t, g, 1, 0)
	rootFails(t, g, 1, 0, api.ErrFull)
	// Of Add the roots are no bound: it is full only when MaxObject objects were made.
	if id := add(t, g, 1); id != 2 {
		t.Errorf("Add(1): %d", id)
	}
	rootFails(t, g, 1, 0, api.ErrFull)
	drop(t, g, 0)
	rootFails(t, g, 1, 0, api.ErrFull)
	drop(t, g, 0)
	root(t, g, 1, 0)
	start(t, g)
	marks(t, g, api.MaxObject+2+1)
	sweeps(t, g)
	for range api.MaxObject {
		has(t, g, true, 1)
		drop(t, g, 0)
	}
	cycle(t, g, 1, 2)
}

func TestARootSeveralTimes(t *testing.T) {
	for _, order := range [][]int{{0, 0, 0}, {2, 1, 0}, {1, 1, 0}} {
		g := mark.New()
		add(t, g, 1)
		set(t, g, 1, 0, 1)
		root(t, g, 1, 0)
		root(t, g, 1, 0)
		roots(t, g, 1, 1, 1)
		for left := 2; left >= 0; left-- {
			gets(t, g, 1, 0, 1)
			cycle(t, g)
			drop(t, g, order[2-left])
			roots(t, g, []int{1, 1}[:left]...)
		}
		getFails(t, g, 1, 0, api.ErrNone)
		setFails(t, g, 1, 0, 0, api.ErrNone)
		rootFails(t, g, 1, 0, api.ErrNone)
		cycle(t, g, 1)
	}
}

func TestDropAtEachPlace(t *testing.T) {
	for at := range 5 {
		g := mark.New()
		add(t, g, 0, 0, 0, 0, 0)
		left := []int{1, 2, 3, 4, 5}
		left = append(left[:at], left[at+1:]...)
		drop(t, g, at)
		roots(t, g, left...)
		counts(t, g, mark.Off, 0, 5)
		has(t, g, true, 1, 2, 3, 4, 5)
		want(t, "Drop(4)", g.Drop(4), api.ErrArg)
		want(t, "Drop(-1)", g.Drop(-1), api.ErrArg)
		roots(t, g, left...)
		cycle(t, g, at+1)
		has(t, g, true, left...)
	}
}

func TestRootIsTheLastOne(t *testing.T) {
	g := mark.New()
	add(t, g, 2, 1, 0)
	set(t, g, 1, 0, 2)
	set(t, g, 1, 1, 3)
	root(t, g, 1, 0)
	roots(t, g, 1, 2, 3, 2)
	root(t, g, 1, 1)
	roots(t, g, 1, 2, 3, 2, 3)
	rootFails(t, g, 2, 0, api.ErrNone)
	roots(t, g, 1, 2, 3, 2, 3)
	add(t, g, 0)
	roots(t, g, 1, 2, 3, 2, 3, 4)
}

func TestSetOverWhatStoodThere(t *testing.T) {
	g := mark.New()
	add(t, g, 3, 1, 1)
	for _, to := range []int{2, 3, 1, 0, 1, 1, 2, 0, 0, 3} {
		set(t, g, 1, 1, to)
		gets(t, g, 1, 1, to)
		gets(t, g, 1, 0, 0)
		gets(t, g, 1, 2, 0)
		gets(t, g, 2, 0, 0)
	}
	roots(t, g, 1, 2, 3)
	// What no field leads to any more is held by nothing.
	drop(t, g, 2, 1)
	cycle(t, g, 2)
	set(t, g, 1, 1, 0)
	cycle(t, g, 3)
}

func TestAFieldThatLeadsToItsOwnObject(t *testing.T) {
	g := mark.New()
	add(t, g, 2)
	set(t, g, 1, 1, 1)
	gets(t, g, 1, 1, 1)
	root(t, g, 1, 1)
	roots(t, g, 1, 1)
	start(t, g)
	marks(t, g, 2+1+1)
	sweeps(t, g)
	drop(t, g, 0, 0)
	start(t, g)
	marks(t, g, 1)
	sweeps(t, g, 1)
}

func TestLoops(t *testing.T) {
	for size := 2; size <= 5; size++ {
		for held := range size {
			g := mark.New()
			for range size {
				add(t, g, 1)
			}
			var others, all []int
			for id := 1; id <= size; id++ {
				set(t, g, id, 0, id%size+1)
				all = append(all, id)
				if id != held+1 {
					others = append(others, id)
				}
			}
			for _, id := range others {
				drop(t, g, slices.Index(g.Roots(), id))
			}
			roots(t, g, held+1)
			start(t, g)
			marks(t, g, 1+size+1)
			sweeps(t, g)
			has(t, g, true, all...)
			drop(t, g, 0)
			cycle(t, g, all...)
		}
	}
}

func TestTwoLoops(t *testing.T) {
	g := mark.New()
	add(t, g, 1, 2, 1, 2)
	set(t, g, 1, 0, 3)
	set(t, g, 3, 0, 1)
	set(t, g, 2, 0, 4)
	set(t, g, 4, 0, 2)
	set(t, g, 4, 1, 1)
	drop(t, g, 0, 1, 1)
	roots(t, g, 2)
	cycle(t, g)
	// One loop leads to the other: it goes alone, if the other one is held.
	root(t, g, 2, 0)
	root(t, g, 4, 1)
	roots(t, g, 2, 4, 1)
	drop(t, g, 0, 0)
	cycle(t, g, 2, 4)
	gets(t, g, 1, 0, 3)
	drop(t, g, 0)
	cycle(t, g, 1, 3)
}

func TestStartAndWorkInEachPhase(t *testing.T) {
	g := mark.New()
	workFails(t, g, api.ErrState)
	for turn := range 3 {
		id := add(t, g, 0)
		start(t, g)
		counts(t, g, mark.Marking, 2*turn, 1)
		want(t, "Start", g.Start(), api.ErrState)
		work(t, g, 0)
		want(t, "Start", g.Start(), api.ErrState)
		counts(t, g, mark.Marking, 2*turn, 1)
		marks(t, g, 2)
		want(t, "Start", g.Start(), api.ErrState)
		counts(t, g, mark.Sweeping, 2*turn, 1)
		drop(t, g, 0)
		sweeps(t, g)
		counts(t, g, mark.Off, 2*turn+1, 1)
		workFails(t, g, api.ErrState)
		counts(t, g, mark.Off, 2*turn+1, 1)
		start(t, g)
		marks(t, g, 1)
		work(t, g, id)
		want(t, "Start", g.Start(), api.ErrState)
		counts(t, g, mark.Sweeping, 2*turn+1, 0)
		work(t, g, 0)
		counts(t, g, mark.Off, 2*turn+2, 0)
		workFails(t, g, api.ErrState)
	}
}

// workFails fails the test if Work comes to something else than this error.
func workFails(t testing.TB, g *mark.Graph, want api.Errno) {
	if id, e := g.Work(); id != 0 || e != want {
		t.Helper()
		t.Errorf("Work: %d, %d, want 0, %d", id, e, want)
	}
}

// Each place of the roots takes a piece of work, each object that is reached takes one, and the end of marking one more.
func TestPiecesOfMarking(t *testing.T) {
	g := mark.New()
	add(t, g, 3, 2, 1, 0, 0)
	set(t, g, 1, 0, 2)
	set(t, g, 1, 2, 3)
	set(t, g, 2, 0, 4)
	set(t, g, 2, 1, 4)
	set(t, g, 3, 0, 4)
	root(t, g, 2, 0)
	roots(t, g, 1, 2, 3, 4, 5, 4)
	start(t, g)
	marks(t, g, 6+5+1)
	sweeps(t, g)
	// Without some of the roots the same objects are gone through.
	drop(t, g, 5, 1, 2)
	roots(t, g, 1, 3, 5)
	start(t, g)
	marks(t, g, 3+5+1)
	sweeps(t, g)
	drop(t, g, 0)
	start(t, g)
	marks(t, g, 2+3+1)
	sweeps(t, g, 1, 2)
	counts(t, g, mark.Off, 3, 3)
}

// A root that wasn't gone through goes ahead of a grey object: behind two pieces both roots were gone through, so that the one that goes is taken from those that were.
func TestRootsGoAheadOfGreyObjects(t *testing.T) {
	g := mark.New()
	add(t, g, 1, 0)
	start(t, g)
	work(t, g, 0, 0)
	drop(t, g, 1)
	// The grey ones: 1 and 2.
	marks(t, g, 2+1)
	sweeps(t, g)
	cycle(t, g, 2)
	// A root that comes while there are grey ones is gone through ahead of them: of the two roots 1 and 3 the latter was, when it goes.
	g = mark.New()
	add(t, g, 1, 1)
	start(t, g)
	work(t, g, 0, 0)
	add(t, g, 0)
	work(t, g, 0)
	drop(t, g, 2)
	marks(t, g, 2+1)
	sweeps(t, g)
	cycle(t, g, 3)
}

// The roots are gone through in their order: of two the first one was, behind one piece.
func TestRootsAreGoneThroughInTheirOrder(t *testing.T) {
	for at, pieces := range []int{0: 1 + 2 + 1, 1: 0 + 2 + 1} {
		g := mark.New()
		add(t, g, 0, 0)
		start(t, g)
		work(t, g, 0)
		drop(t, g, at)
		marks(t, g, pieces)
		sweeps(t, g)
		cycle(t, g, at+1)
	}
}

// Roots go at each place, behind each number of pieces of work: those that were gone through are as many less, if one of them goes.
func TestDropWhileMarking(t *testing.T) {
	const n = 5
	for pieces := range n + 1 {
		for at := range n {
			g := mark.New()
			add(t, g, 0, 0, 0, 0, 0)
			start(t, g)
			for range pieces {
				work(t, g, 0)
			}
			drop(t, g, at)
			left := n - pieces
			if at >= pieces {
				left--
			}
			marks(t, g, left+n+1)
			sweeps(t, g)
			cycle(t, g, at+1)
		}
	}
}

// What was reached at Start is kept in this cycle, though its root goes ahead of the place up to which the roots were gone through.
func TestARootThatGoesIsShaded(t *testing.T) {
	g := mark.New()
	add(t, g, 1, 1, 0)
	set(t, g, 1, 0, 2)
	set(t, g, 2, 0, 3)
	drop(t, g, 1, 1)
	start(t, g)
	drop(t, g, 0)
	roots(t, g)
	marks(t, g, 0+3+1)
	sweeps(t, g)
	has(t, g, true, 1, 2, 3)
	cycle(t, g, 1, 2, 3)
}

// Whatever was written over, what stood there is kept in this cycle; and what it leads to, too.
func TestAFieldWrittenOverWhileMarking(t *testing.T) {
	for pieces := range 4 {
		for _, to := range []int{0, 1, 2} {
			g := mark.New()
			add(t, g, 1, 1, 1, 1)
			set(t, g, 1, 0, 3)
			set(t, g, 3, 0, 4)
			drop(t, g, 2, 2)
			roots(t, g, 1, 2)
			start(t, g)
			for range pieces {
				work(t, g, 0)
			}
			set(t, g, 1, 0, to)
			gets(t, g, 1, 0, to)
			marks(t, g, 2+4+1-pieces)
			sweeps(t, g)
			has(t, g, true, 3, 4)
			cycle(t, g, 3, 4)
			has(t, g, true, 1, 2)
		}
	}
}

// An object hides behind one that was gone through already, as the only root that leads to it goes.
func TestAnObjectThatHides(t *testing.T) {
	for pieces := range 6 {
		g := mark.New()
		add(t, g, 1, 1, 0)
		set(t, g, 2, 0, 3)
		drop(t, g, 2)
		start(t, g)
		for range pieces {
			work(t, g, 0)
		}
		root(t, g, 2, 0)
		set(t, g, 1, 0, 3)
		set(t, g, 2, 0, 0)
		drop(t, g, 2, 1)
		roots(t, g, 1)
		rest(t, g)
		root(t, g, 1, 0)
		roots(t, g, 1, 3)
		cycle(t, g, 2)
	}
}

// Root lays a root behind all others, which is gone through, too.
func TestRootWhileMarking(t *testing.T) {
	for pieces := range 6 {
		g := mark.New()
		add(t, g, 1, 1, 0)
		set(t, g, 1, 0, 2)
		set(t, g, 2, 0, 3)
		drop(t, g, 1, 1)
		start(t, g)
		left := 1 + 3 + 1 - min(pieces, 4)
		for range min(pieces, 4) {
			work(t, g, 0)
		}
		root(t, g, 1, 0)
		left++
		if pieces%2 == 0 {
			root(t, g, 2, 0)
			left++
		}
		marks(t, g, left)
		sweeps(t, g)
		has(t, g, true, 1, 2, 3)
	}
}

// An object that is made while marking is black: it is kept in this cycle, takes no piece of work but as a root, and is white in the next one.
func TestAddWhileMarking(t *testing.T) {
	for pieces := range 4 {
		for _, goes := range []bool{false, true} {
			g := mark.New()
			add(t, g, 1, 0)
			start(t, g)
			for range pieces {
				work(t, g, 0)
			}
			if id := add(t, g, 1); id != 3 {
				t.Errorf("Add(1): %d", id)
			}
			counts(t, g, mark.Marking, 0, 3)
			left := 2 + 2 + 1 - pieces
			if goes {
				drop(t, g, 2)
			} else {
				left++
				set(t, g, 3, 0, 2)
			}
			marks(t, g, left)
			sweeps(t, g)
			has(t, g, true, 1, 2, 3)
			if goes {
				cycle(t, g, 3)
			} else {
				cycle(t, g)
				drop(t, g, 2)
				cycle(t, g, 3)
			}
		}
	}
}

// What a black object led to isn't lost when it is taken over by others.
func TestAnObjectThatGoesFromOneToTheOther(t *testing.T) {
	for pieces := range 7 {
		g := mark.New()
		add(t, g, 1, 0)
		set(t, g, 1, 0, 2)
		drop(t, g, 1)
		start(t, g)
		for range min(pieces, 3) {
			work(t, g, 0)
		}
		fresh := add(t, g, 1)
		for range max(pieces-3, 0) {
			work(t, g, 0)
		}
		root(t, g, 1, 0)
		set(t, g, fresh, 0, 2)
		set(t, g, 1, 0, 0)
		drop(t, g, 2)
		rest(t, g)
		root(t, g, fresh, 0)
		roots(t, g, 1, 3, 2)
	}
}

func TestSweepingFreesByNumbers(t *testing.T) {
	g := mark.New()
	add(t, g, 0, 1, 0, 0, 1, 0, 0)
	drop(t, g, 6, 4, 3, 2, 0)
	roots(t, g, 2, 6)
	start(t, g)
	marks(t, g, 2+2+1)
	for i, id := range []int{1, 3, 4, 5, 7} {
		counts(t, g, mark.Sweeping, 0, 7-i)
		has(t, g, true, id)
		work(t, g, id)
		has(t, g, false, id)
	}
	// It is over only behind the last one.
	counts(t, g, mark.Sweeping, 0, 2)
	want(t, "Start", g.Start(), api.ErrState)
	work(t, g, 0)
	counts(t, g, mark.Off, 1, 2)
	has(t, g, true, 2, 6)
	workFails(t, g, api.ErrState)
}

// Numbers whose objects went in earlier cycles are passed over.
func TestSweepingBehindEarlierCycles(t *testing.T) {
	g := mark.New()
	add(t, g, 0, 0, 0, 0, 0, 0)
	drop(t, g, 4, 2, 0)
	cycle(t, g, 1, 3, 5)
	drop(t, g, 1)
	cycle(t, g, 4)
	drop(t, g, 1, 0)
	cycle(t, g, 2, 6)
	cycle(t, g)
	counts(t, g, mark.Off, 4, 0)
}

// Roots that go while there is sweeping are kept to the end of the cycle, ahead of the object up to which it was swept and behind it.
func TestDropWhileSweeping(t *testing.T) {
	for at := range 5 {
		for pieces := range 3 {
			g := mark.New()
			// The odd ones are held, 2 and 4 aren't.
			add(t, g, 0, 0, 0, 0, 0, 0, 0, 0, 0)
			drop(t, g, 3, 1)
			start(t, g)
			marks(t, g, 7+7+1)
			dead := []int{2, 4}
			work(t, g, dead[:pieces]...)
			gone := g.Roots()[at]
			drop(t, g, at)
			counts(t, g, mark.Sweeping, 0, 9-pieces)
			sweeps(t, g, dead[pieces:]...)
			has(t, g, true, gone)
			cycle(t, g, gone)
			counts(t, g, mark.Off, 2, 6)
		}
	}
}

// Ahead of the object up to which it was swept there are white ones that are held: nothing is shaded, and they aren't freed, as each object is gone through once.
func TestSetAndRootWhileSweeping(t *testing.T) {
	for pieces := range 3 {
		g := mark.New()
		add(t, g, 2, 0, 1, 1, 0, 1)
		set(t, g, 1, 0, 3)
		set(t, g, 3, 0, 4)
		set(t, g, 4, 0, 6)
		drop(t, g, 5, 4, 3, 2, 1)
		roots(t, g, 1)
		start(t, g)
		marks(t, g, 1+4+1)
		dead := []int{2, 5}
		work(t, g, dead[:pieces]...)
		root(t, g, 1, 0)
		root(t, g, 3, 0)
		root(t, g, 4, 0)
		roots(t, g, 1, 3, 4, 6)
		set(t, g, 6, 0, 1)
		set(t, g, 1, 0, 6)
		set(t, g, 1, 1, 4)
		set(t, g, 4, 0, 0)
		drop(t, g, 1, 1, 1)
		phase(t, g, mark.Sweeping)
		sweeps(t, g, dead[pieces:]...)
		has(t, g, true, 1, 3, 4, 6)
		gets(t, g, 1, 0, 6)
		start(t, g)
		marks(t, g, 1+3+1)
		sweeps(t, g, 3)
	}
}

// An object that is made while there is sweeping is black: it is kept, also if it goes at once, and white in the next cycle.
func TestAddWhileSweeping(t *testing.T) {
	for pieces := range 3 {
		for _, goes := range []bool{false, true} {
			g := mark.New()
			add(t, g, 0, 0, 0)
			drop(t, g, 2, 0)
			start(t, g)
			marks(t, g, 1+1+1)
			dead := []int{1, 3}
			work(t, g, dead[:pieces]...)
			if id := add(t, g, 1); id != 4 {
				t.Errorf("Add(1): %d", id)
			}
			if goes {
				drop(t, g, 1)
			} else {
				set(t, g, 4, 0, 2)
			}
			counts(t, g, mark.Sweeping, 0, 4-pieces)
			sweeps(t, g, dead[pieces:]...)
			has(t, g, true, 2, 4)
			start(t, g)
			if goes {
				marks(t, g, 1+1+1)
				sweeps(t, g, 4)
			} else {
				marks(t, g, 2+2+1)
				sweeps(t, g)
			}
		}
	}
}

// Objects that are made in Off are white: those that nothing leads to are freed by the cycle that begins then.
func TestAddInOff(t *testing.T) {
	g := mark.New()
	for turn := range 3 {
		id := add(t, g, 0)
		drop(t, g, 0)
		start(t, g)
		marks(t, g, 1)
		sweeps(t, g, id)
		counts(t, g, mark.Off, turn+1, 0)
	}
}

// A cycle goes through all roots anew, also through those through which the one ahead of it went, and through objects of all colours that it left.
func TestACycleBehindAnother(t *testing.T) {
	g := mark.New()
	add(t, g, 1, 0, 0)
	set(t, g, 1, 0, 2)
	drop(t, g, 1)
	for cycles := range 5 {
		start(t, g)
		marks(t, g, 2+3+1)
		sweeps(t, g)
		counts(t, g, mark.Off, cycles+1, 3)
	}
	drop(t, g, 1)
	start(t, g)
	marks(t, g, 1+2+1)
	sweeps(t, g, 3)
	set(t, g, 1, 0, 0)
	start(t, g)
	marks(t, g, 1+1+1)
	sweeps(t, g, 2)
	drop(t, g, 0)
	start(t, g)
	marks(t, g, 1)
	sweeps(t, g, 1)
	counts(t, g, mark.Off, 8, 0)
}

// What was kept though nothing leads to it any more may lead to objects; all of them go in the next cycle.
func TestWhatIsKeptTooLongGoesInTheNextCycle(t *testing.T) {
	g := mark.New()
	add(t, g, 1, 1, 1)
	set(t, g, 1, 0, 2)
	set(t, g, 2, 0, 3)
	set(t, g, 3, 0, 1)
	drop(t, g, 1, 1)
	start(t, g)
	fresh := add(t, g, 1)
	set(t, g, fresh, 0, 1)
	drop(t, g, 1, 0)
	roots(t, g)
	rest(t, g)
	has(t, g, true, 1, 2, 3, fresh)
	start(t, g)
	marks(t, g, 1)
	sweeps(t, g, 1, 2, 3, fresh)
}

func TestCountsRootsAndHasBehindEachCall(t *testing.T) {
	g := mark.New()
	add(t, g, 2)
	counts(t, g, mark.Off, 0, 1)
	roots(t, g, 1)
	has(t, g, true, 1)
	has(t, g, false, 0, 2)
	add(t, g, 0)
	counts(t, g, mark.Off, 0, 2)
	roots(t, g, 1, 2)
	has(t, g, true, 1, 2)
	set(t, g, 1, 1, 2)
	gets(t, g, 1, 1, 2)
	counts(t, g, mark.Off, 0, 2)
	roots(t, g, 1, 2)
	drop(t, g, 1)
	counts(t, g, mark.Off, 0, 2)
	roots(t, g, 1)
	has(t, g, true, 1, 2)
	root(t, g, 1, 1)
	counts(t, g, mark.Off, 0, 2)
	roots(t, g, 1, 2)
	start(t, g)
	counts(t, g, mark.Marking, 0, 2)
	roots(t, g, 1, 2)
	has(t, g, true, 1, 2)
	work(t, g, 0)
	counts(t, g, mark.Marking, 0, 2)
	rest(t, g)
	counts(t, g, mark.Off, 1, 2)
	roots(t, g, 1, 2)
	has(t, g, true, 1, 2)
}

func TestListsAreNew(t *testing.T) {
	g := mark.New()
	add(t, g, 1, 0, 0, 0, 0)
	for range 2 {
		first, second := g.Roots(), g.Roots()
		spoil(first)
		if !slices.Equal(second, []int{1, 2, 3, 4, 5}) {
			t.Errorf("a list that was spoilt spoilt another one: %v", second)
		}
		roots(t, g, 1, 2, 3, 4, 5)
		spoil(second)
		roots(t, g, 1, 2, 3, 4, 5)
	}
	// Spare room is new, too: what comes behind the list isn't the graph's.
	drop(t, g, 4, 3)
	got := g.Roots()
	spoil(got)
	set(t, g, 1, 0, 3)
	root(t, g, 1, 0)
	roots(t, g, 1, 2, 3, 3)
	spoil(got)
	roots(t, g, 1, 2, 3, 3)
	drop(t, g, 0, 0, 0, 0)
	spoil(g.Roots())
	roots(t, g)
}

// spoil overwrites a list and its spare room.
func spoil(list []int) {
	list = list[:cap(list)]
	for i := range list {
		list[i] = -7
	}
}

// wrong makes each wrong call by each number that is none. The graph's objects have at most one field.
func wrong(t testing.TB, g *mark.Graph) {
	t.Helper()
	held := g.Roots()
	for _, a := range append(numbers(), len(held)) {
		if a < 0 || a > api.MaxFields {
			addFails(t, g, a, api.ErrArg)
		}
		if a < 0 || a >= len(held) {
			want(t, fmt.Sprintf("Drop(%d)", a), g.Drop(a), api.ErrArg)
		}
		wrongFields(t, g, held, a)
	}
}

// wrongFields makes each wrong call of the fields of an object, which may be none, or no root.
func wrongFields(t testing.TB, g *mark.Graph, held []int, id int) {
	t.Helper()
	for _, field := range numbers() {
		if !slices.Contains(held, id) {
			getFails(t, g, id, field, api.ErrNone)
			rootFails(t, g, id, field, api.ErrNone)
			setFails(t, g, id, field, 0, api.ErrNone)
			for _, to := range held {
				setFails(t, g, id, field, to, api.ErrNone)
				if id != 0 {
					setFails(t, g, to, 0, id, api.ErrNone)
				}
			}
			continue
		}
		if field < 0 || field > 0 {
			getFails(t, g, id, field, api.ErrArg)
			rootFails(t, g, id, field, api.ErrArg)
			setFails(t, g, id, field, 0, api.ErrArg)
			setFails(t, g, id, field, id, api.ErrArg)
		}
	}
}

// phases are graphs of three objects that are held, one that only another one leads to, and one that was freed, in each phase.
func phases(t testing.TB) []*mark.Graph {
	t.Helper()
	var all []*mark.Graph
	for pieces := range 13 {
		g := mark.New()
		add(t, g, 1, 1, 1, 1)
		drop(t, g, 0)
		cycle(t, g, 1)
		add(t, g, 1)
		set(t, g, 5, 0, 4)
		set(t, g, 3, 0, 3)
		drop(t, g, 2)
		roots(t, g, 2, 3, 5)
		if pieces > 0 {
			start(t, g)
			for range pieces - 1 {
				g.Work()
			}
		}
		all = append(all, g)
	}
	phase(t, all[0], mark.Off)
	phase(t, all[1], mark.Marking)
	phase(t, all[9], mark.Sweeping)
	phase(t, all[12], mark.Off)
	return all
}

func TestWrongInput(t *testing.T) {
	for i, g := range append(phases(t), mark.New()) {
		before := tells(g)
		wrong(t, g)
		if tells(g) != before {
			t.Errorf("graph %d: a wrong call changed something", i)
		}
	}
}

// Wrong calls leave a cycle as it is: it does the same pieces, as many of them.
func TestWrongInputWhileMarking(t *testing.T) {
	g := mark.New()
	add(t, g, 1, 1, 0)
	set(t, g, 1, 0, 2)
	drop(t, g, 1, 1)
	start(t, g)
	for range 4 {
		wrong(t, g)
		phase(t, g, mark.Marking)
		work(t, g, 0)
	}
	phase(t, g, mark.Sweeping)
	wrong(t, g)
	work(t, g, 3)
	wrong(t, g)
	work(t, g, 0)
	counts(t, g, mark.Off, 1, 2)
}

// Where two are wrong at once, the one counts that the chapter names first.
func TestOrderOfErrors(t *testing.T) {
	for _, g := range phases(t) {
		before := tells(g)
		// An object that there isn't, or that is no root, and a field that there isn't.
		for _, id := range []int{-1, 0, 1, 4, 6} {
			getFails(t, g, id, 1, api.ErrNone)
			rootFails(t, g, id, -1, api.ErrNone)
			setFails(t, g, id, 1, 2, api.ErrNone)
			setFails(t, g, id, -1, 0, api.ErrNone)
		}
		for _, to := range []int{-1, 1, 4, 6} {
			setFails(t, g, 2, 1, to, api.ErrNone)
			setFails(t, g, 2, -1, to, api.ErrNone)
			setFails(t, g, to, 0, to, api.ErrNone)
		}
		setFails(t, g, 2, 1, 2, api.ErrArg)
		if tells(g) != before {
			t.Error("a refused call changed something")
		}
	}
	full := mark.New()
	for range api.MaxObject {
		add(t, full, 1)
	}
	set(t, full, 2, 0, 1)
	addFails(t, full, -1, api.ErrArg)
	addFails(t, full, api.MaxFields+1, api.ErrArg)
	addFails(t, full, 0, api.ErrFull)
	rootFails(t, full, 0, 0, api.ErrNone)
	rootFails(t, full, 1, 1, api.ErrArg)
	rootFails(t, full, 1, 0, api.ErrNone)
	rootFails(t, full, 2, 0, api.ErrFull)
	counts(t, full, mark.Off, 0, api.MaxObject)
}

func TestNilGraphs(t *testing.T) {
	var g *mark.Graph
	for _, a := range numbers() {
		addFails(t, g, a, api.ErrState)
		want(t, "Drop", g.Drop(a), api.ErrState)
		for _, b := range numbers() {
			getFails(t, g, a, b, api.ErrState)
			rootFails(t, g, a, b, api.ErrState)
			setFails(t, g, a, b, 0, api.ErrState)
			setFails(t, g, b, 0, a, api.ErrState)
		}
	}
	want(t, "Start", g.Start(), api.ErrState)
	workFails(t, g, api.ErrState)
	counts(t, g, 0, 0, 0)
	roots(t, g)
	has(t, g, false, numbers()...)
}

func TestAnswersHangOnWhatWasTold(t *testing.T) {
	first := walk(t, nil)
	other := mark.New()
	again := walk(t, func() {
		id, _ := other.Add(2)
		other.Set(id, 1, id)
		other.Root(id, 1)
		other.Drop(0)
		other.Start()
		other.Work()
	})
	if first != again {
		t.Error("the same calls answered something else beside another graph")
	}
}

// walk is what a graph tells on a walk; something else may be done between.
func walk(t *testing.T, between func()) string {
	var text strings.Builder
	p := newPair(t)
	random := numbersFrom(5)
	for range 500 {
		p.act(random(calls), random(20), random(4), random(20))
		if between != nil {
			between()
		}
		text.WriteString(tells(p.g))
	}
	return text.String()
}

// numbersFrom is a row of numbers below what is asked each time, that hangs on the seed alone.
func numbersFrom(seed uint64) func(n int) int {
	return func(n int) int {
		seed = seed*6364136223846793005 + 1442695040888963407
		return int(seed >> 33 % uint64(n))
	}
}

// starts are pairs from which the short rows begin: without objects, with a chain, with a loop that is held twice, and with some of each in the midst of marking and of sweeping.
func starts(t *testing.T) []func() *pair {
	chain := func() *pair {
		p := newPair(t)
		for id := 1; id <= 3; id++ {
			p.add(2)
		}
		p.set(1, 0, 2)
		p.set(2, 0, 3)
		p.drop(1)
		p.drop(1)
		return p
	}
	begun := func(pieces int) func() *pair {
		return func() *pair {
			p := chain()
			p.add(1)
			p.add(1)
			p.set(5, 0, 1)
			p.drop(1)
			p.start()
			for range pieces {
				p.work()
			}
			return p
		}
	}
	return []func() *pair{
		func() *pair { return newPair(t) },
		chain,
		func() *pair {
			p := newPair(t)
			p.add(1)
			p.add(1)
			p.set(1, 0, 2)
			p.set(2, 0, 1)
			p.root(1, 0)
			return p
		},
		begun(1),
		begun(3),
		begun(7),
		begun(8),
	}
}

func TestEachShortRowOfCalls(t *testing.T) {
	const length = 4
	rows := 1
	for range length {
		rows *= shortCalls
	}
	for i, begin := range starts(t) {
		for row := range rows {
			p := begin()
			for rest, k := row, 0; k < length; rest, k = rest/shortCalls, k+1 {
				p.short(rest % shortCalls)
			}
			p.collect()
			if t.Failed() {
				t.Fatalf("start %d, row %d", i, row)
			}
		}
	}
}

// The walks are of few roots and of many, of much work and of little.
func TestLongWalk(t *testing.T) {
	for seed := range 24 {
		random := numbersFrom(uint64(seed))
		p := newPair(t)
		most := []int{3, 8, 30}[seed%3]
		for range 2500 {
			call := random(calls)
			if len(p.roots) > most {
				call = callDrop
			} else if seed%2 == 0 && random(3) == 0 {
				call = callWork
			}
			p.act(call, random(most+1), random(4), random(most+1))
		}
		p.collect()
		if t.Failed() {
			t.Fatalf("seed %d", seed)
		}
	}
}

func FuzzCalls(f *testing.F) {
	f.Add([]byte{0, 2, 0, 0, 0, 1, 0, 0, 4, 0, 1, 1, 7, 0, 0, 0, 8, 0, 0, 0, 2, 0, 0, 0, 8, 0, 0, 0})
	f.Add([]byte{0, 1, 0, 0, 7, 0, 0, 0, 8, 0, 0, 0, 4, 0, 0, 0, 3, 0, 0, 0, 2, 0, 0, 0})
	f.Fuzz(func(t *testing.T, told []byte) {
		p := newPair(t)
		for len(told) >= 4 {
			c := told
			told = told[4:]
			p.act(int(c[0])%calls, int(int8(c[1])), int(int8(c[2])), int(int8(c[3])))
		}
		p.collect()
	})
}
