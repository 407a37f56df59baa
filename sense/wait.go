package sense

import "treadle/api"

// maxCases is how many cases a select may have.
const maxCases = api.MaxList / 3

// Case is a case of a select: a send or a receive, by the channel in a slot, of a slot.
type Case struct {
	Send          bool
	Channel, Slot int
}

// CaseOf is the case of this number of a select.
func CaseOf(ins api.Ins, number int) Case {
	three := ins.List[3*number:]
	return Case{Send: three[0] == 0, Channel: three[1], Slot: three[2]}
}

// Cases answers how many cases a select has.
func Cases(ins api.Ins) int {
	return len(ins.List) / 3
}

// Waiter is by what a channel knows a goroutine that waits: its number, and the case of its select at which it waits (0 of another instruction).
func Waiter(g, number int) int {
	return g*maxCases + number
}

// Waits is the goroutine that a channel knows by a number, and its case.
func Waits(waiter int) (g, number int) {
	return waiter / maxCases, waiter % maxCases
}
