package draft

import (
	"slices"

	"treadle/api"
)

// Event is an event with an int.
func Event(kind, g, n int) api.Event { return api.Event{Kind: kind, G: g, Value: uint64(n)} }

// Prints are events of a goroutine that prints these.
func Prints(g int, list ...int) []api.Event {
	var events []api.Event
	for _, n := range list {
		events = append(events, Event(api.EvPrint, g, n))
	}
	return events
}

// Then are events, and one more.
func Then(events []api.Event, kind, g, n int) []api.Event {
	return append(slices.Clone(events), Event(kind, g, n))
}

// Exits are the events of a goroutine 0 that prints these and then ends, Panics of one that panics then.
func Exits(list ...int) []api.Event         { return Then(Prints(0, list...), api.EvExit, 0, 0) }
func Panics(n int, list ...int) []api.Event { return Then(Prints(0, list...), api.EvPanic, 0, n) }
