package mark

import (
	"slices"
	"testing"

	"treadle/api"
)

// No call tells colours, nor in which order objects are grey; so these tests look into the graph.

// graph has objects of two fields, of which the first ones lead to these.
func graph(t *testing.T, leads ...int) *Graph {
	t.Helper()
	g := New()
	for range leads {
		ok(t, told(g.Add(2)))
	}
	for i, to := range leads {
		ok(t, g.Set(i+1, 0, to))
	}
	colours(t, g, make([]int, len(leads))...)
	return g
}

// told is the error of two answers.
func told(_ int, e api.Errno) api.Errno {
	return e
}

// ok fails the test at an error.
func ok(t *testing.T, errors ...api.Errno) {
	t.Helper()
	for _, e := range errors {
		if e != api.OK {
			t.Fatalf("error %d", e)
		}
	}
}

// colours fails the test if the objects have others; those that were freed are told as -1.
func colours(t *testing.T, g *Graph, want ...int) {
	t.Helper()
	var got []int
	for _, o := range g.objects {
		if o == nil {
			got = append(got, -1)
		} else {
			got = append(got, o.colour)
		}
	}
	if !slices.Equal(got, want) {
		t.Errorf("colours %v, want %v", got, want)
	}
}

// greys fails the test if other objects are grey, or in another order.
func greys(t *testing.T, g *Graph, want ...int) {
	t.Helper()
	if !slices.Equal(g.greys, want) {
		t.Errorf("grey ones %v, want %v", g.greys, want)
	}
	for i, o := range g.objects {
		if o != nil && (o.colour == grey) != slices.Contains(want, i+1) {
			t.Errorf("%d has the colour %d", i+1, o.colour)
		}
	}
}

func work(t *testing.T, g *Graph) {
	t.Helper()
	ok(t, told(g.Work()))
}

func TestMarkingShadesInItsOrder(t *testing.T) {
	g := graph(t, 5, 3, 0, 2, 0, 0)
	ok(t, g.Set(1, 1, 4), g.Set(2, 1, 6), g.Drop(2), g.Drop(2), g.Drop(2), g.Drop(2))
	ok(t, g.Start())
	colours(t, g, white, white, white, white, white, white)
	greys(t, g)
	work(t, g)
	greys(t, g, 1)
	work(t, g)
	greys(t, g, 1, 2)
	work(t, g)
	greys(t, g, 2, 5, 4)
	work(t, g)
	greys(t, g, 5, 4, 3, 6)
	colours(t, g, black, black, grey, grey, grey, grey)
	work(t, g)
	greys(t, g, 4, 3, 6)
	work(t, g)
	work(t, g)
	greys(t, g, 6)
	work(t, g)
	colours(t, g, black, black, black, black, black, black)
	greys(t, g)
}

func TestOfFieldsTheFirstIsShadedFirst(t *testing.T) {
	g := New()
	ok(t, told(g.Add(api.MaxFields)))
	var want []int
	for field := range api.MaxFields {
		id := api.MaxFields + 1 - field
		want = append(want, id)
		ok(t, told(g.Add(0)))
	}
	for field, id := range want {
		ok(t, g.Set(1, field, id))
	}
	for range want {
		ok(t, g.Drop(1))
	}
	ok(t, g.Start())
	work(t, g)
	work(t, g)
	greys(t, g, want...)
}

func TestDropShades(t *testing.T) {
	g := graph(t, 0, 0, 0)
	ok(t, g.Start())
	work(t, g)
	ok(t, g.Drop(2))
	greys(t, g, 1, 3)
	ok(t, g.Drop(0))
	greys(t, g, 1, 3)
	ok(t, g.Drop(0))
	greys(t, g, 1, 3, 2)
}

func TestRootShades(t *testing.T) {
	g := graph(t, 2, 3, 0)
	ok(t, g.Drop(1), g.Drop(1))
	ok(t, g.Start())
	ok(t, g.Root(1, 0))
	greys(t, g, 2)
	ok(t, g.Root(2, 0))
	greys(t, g, 2, 3)
	ok(t, g.Root(2, 0))
	greys(t, g, 2, 3)
	colours(t, g, white, grey, grey)
}

func TestSetShadesWhatStoodThereFirst(t *testing.T) {
	g := graph(t, 2, 0, 0, 0)
	ok(t, g.Start())
	ok(t, g.Set(1, 0, 3))
	greys(t, g, 2, 3)
	colours(t, g, white, grey, grey, white)
	ok(t, g.Set(1, 0, 4))
	greys(t, g, 2, 3, 4)
	ok(t, g.Set(1, 0, 0))
	greys(t, g, 2, 3, 4)
	ok(t, g.Set(4, 1, 1))
	greys(t, g, 2, 3, 4, 1)
}

func TestNothingIsShadedButWhileMarking(t *testing.T) {
	g := graph(t, 2, 3, 4, 0)
	change := func() {
		ok(t, g.Root(1, 0), g.Set(1, 1, 4), g.Set(1, 1, 0), g.Drop(len(g.roots)-1))
		greys(t, g)
	}
	change()
	colours(t, g, white, white, white, white)
	ok(t, told(g.Add(0)), g.Drop(4))
	ok(t, g.Start())
	for g.phase == Marking {
		work(t, g)
	}
	colours(t, g, black, black, black, black, white)
	change()
	colours(t, g, black, black, black, black, white)
	work(t, g)
	colours(t, g, white, white, white, white, -1)
	change()
	colours(t, g, white, white, white, white, -1)
	work(t, g)
	change()
	colours(t, g, white, white, white, white, -1)
}

func TestTheColourOfAnObjectThatIsMade(t *testing.T) {
	g := graph(t, 0, 0)
	ok(t, g.Drop(0))
	ok(t, g.Start())
	ok(t, told(g.Add(0)))
	colours(t, g, white, white, black)
	for g.phase == Marking {
		work(t, g)
	}
	ok(t, told(g.Add(0)))
	colours(t, g, white, black, black, black)
	work(t, g)
	ok(t, told(g.Add(0)))
	colours(t, g, -1, black, black, black, black)
	work(t, g)
	ok(t, told(g.Add(0)))
	colours(t, g, -1, white, white, white, white, white)
}
