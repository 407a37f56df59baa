package chans_test

import (
	"fmt"
	"math"
	"slices"
	"testing"

	"treadle/api"
	"treadle/chans"
)

const (
	most = math.MaxUint64
	// nobody calls where it is not to be seen who does.
	nobody = 99
)

// numbers are an int's edges, and those of the places.
func numbers() []int {
	return []int{
		math.MinInt, math.MinInt + 1, -api.MaxCap, -2, -1,
		0, 1, 2, 3, api.MaxCap - 1, api.MaxCap, api.MaxCap + 1, 2 * api.MaxCap,
		math.MaxInt - 1, math.MaxInt,
	}
}

// made is a channel of so many places.
func made(t testing.TB, places int) *chans.Chan {
	t.Helper()
	c, e := chans.New(places)
	if c == nil || e != api.OK {
		t.Fatalf("New(%d): %v, %d", places, c, e)
	}
	return c
}

// The results, by what they are.
func done(value uint64) chans.Result { return chans.Result{What: chans.Done, Value: value} }
func handed(who int, value uint64) chans.Result {
	return chans.Result{What: chans.Handed, Who: who, Value: value}
}
func waits() chans.Result   { return chans.Result{What: chans.Waits} }
func refused() chans.Result { return chans.Result{What: chans.Refused} }

// send fails the test if a Send comes to something else.
func send(t testing.TB, c *chans.Chan, id int, value uint64, wait bool, want chans.Result) {
	t.Helper()
	if got := c.Send(id, value, wait); got != want {
		t.Errorf("Send(%d, %d, %v): %v, want %v", id, value, wait, got, want)
	}
}

// recv fails the test if a Recv comes to something else.
func recv(t testing.TB, c *chans.Chan, id int, wait bool, want chans.Result) {
	t.Helper()
	if got := c.Recv(id, wait); got != want {
		t.Errorf("Recv(%d, %v): %v, want %v", id, wait, got, want)
	}
}

// fill lays values into free places.
func fill(t testing.TB, c *chans.Chan, values ...uint64) {
	t.Helper()
	for _, v := range values {
		send(t, c, nobody, v, false, done(0))
	}
}

// queueSends lets somebody wait to send each of these.
func queueSends(c *chans.Chan, id int, values ...uint64) {
	for _, v := range values {
		c.Queue(id, v, true)
	}
}

// queueRecvs lets each of these wait to receive.
func queueRecvs(c *chans.Chan, ids ...int) {
	for _, id := range ids {
		c.Queue(id, 7, false)
	}
}

// stands fails the test if the channel has other full places, others who wait to send, or another number who wait to receive.
func stands(t testing.TB, c *chans.Chan, places, sends []uint64, receivers int) {
	t.Helper()
	if x, y, z := c.Counts(); x != len(places) || y != len(sends) || z != receivers {
		t.Errorf("Counts: %d, %d, %d, want %d, %d, %d", x, y, z, len(places), len(sends), receivers)
	}
	if got, want := c.Values(), slices.Concat(places, sends); !slices.Equal(got, want) {
		t.Errorf("Values: %d, want %d", got, want)
	}
}

// closed fails the test if Closed answers something else.
func closed(t testing.TB, c *chans.Chan, want bool) {
	t.Helper()
	if got := c.Closed(); got != want {
		t.Errorf("Closed: %v, want %v", got, want)
	}
}

// closes closes an open channel and fails the test if others waited.
func closes(t testing.TB, c *chans.Chan, ids ...int) {
	t.Helper()
	closed(t, c, false)
	if got, is := c.Close(); !slices.Equal(got, ids) || !is {
		t.Errorf("Close: %d, %v, want %d, true", got, is, ids)
	}
	closed(t, c, true)
}

// keepsClosed fails the test if a channel that is closed can be closed.
func keepsClosed(t testing.TB, c *chans.Chan) {
	t.Helper()
	if got, is := c.Close(); len(got) != 0 || is {
		t.Errorf("Close again: %d, %v", got, is)
	}
	closed(t, c, true)
}

// list is a short way of writing values.
func list(values ...uint64) []uint64 {
	return values
}

// count are the n values from first on.
func count(first uint64, n int) []uint64 {
	var values []uint64
	for i := range n {
		values = append(values, first+uint64(i))
	}
	return values
}

func TestExample(t *testing.T) {
	c := made(t, 1)
	send(t, c, 1, 5, true, done(0))
	send(t, c, 2, 6, true, waits())
	recv(t, c, 3, true, handed(2, 5))
	recv(t, c, 3, true, done(6))
	recv(t, c, 3, true, waits())
	closes(t, c, 3)
	send(t, c, 1, 1, true, refused())
	recv(t, c, 1, true, refused())
}

func TestResultsAreNumbered(t *testing.T) {
	if chans.Done != 1 || chans.Handed != 2 || chans.Waits != 3 || chans.Refused != 4 {
		t.Error(chans.Done, chans.Handed, chans.Waits, chans.Refused)
	}
}

func TestNew(t *testing.T) {
	for _, places := range numbers() {
		c, e := chans.New(places)
		if places < 0 || places > api.MaxCap {
			if c != nil || e != api.ErrArg {
				t.Errorf("New(%d): %v, %d, want ErrArg", places, c, e)
			}
			continue
		}
		if c == nil || e != api.OK {
			t.Fatalf("New(%d): %v, %d", places, c, e)
		}
		stands(t, c, nil, nil, 0)
		closed(t, c, false)
		recv(t, c, 1, false, waits())
		closes(t, c)
	}
}

// Of each number of places so many values stand in the channel, and no more.
func TestSendToAFreePlace(t *testing.T) {
	for places := range api.MaxCap + 1 {
		for _, wait := range []bool{false, true} {
			c := made(t, places)
			values := count(most, places)
			for i, v := range values {
				send(t, c, i, v, wait, done(0))
				stands(t, c, values[:i+1], nil, 0)
			}
			send(t, c, 50, 5, false, waits())
			stands(t, c, values, nil, 0)
			send(t, c, 51, 6, true, waits())
			stands(t, c, values, list(6), 0)
			closes(t, c, 51)
		}
	}
}

func TestSendToSomebodyWhoWaits(t *testing.T) {
	for _, places := range []int{0, 1, 2, api.MaxCap} {
		for _, wait := range []bool{false, true} {
			c := made(t, places)
			for _, id := range []int{4, 0, math.MinInt, math.MaxInt} {
				recv(t, c, id, true, waits())
			}
			stands(t, c, nil, nil, 4)
			send(t, c, 1, 5, wait, handed(4, 0))
			send(t, c, 1, 0, wait, handed(0, 0))
			stands(t, c, nil, nil, 2)
			send(t, c, math.MaxInt, most, wait, handed(math.MinInt, 0))
			stands(t, c, nil, nil, 1)
			send(t, c, math.MaxInt, most, wait, handed(math.MaxInt, 0))
			stands(t, c, nil, nil, 0)
			closes(t, c)
		}
	}
}

// Who waits to receive comes ahead of a free place, ahead of values that stand there, and ahead of those who wait to send.
func TestSendToSomebodyWhoWaitsBesideOthers(t *testing.T) {
	c := made(t, 3)
	fill(t, c, 1, 2)
	queueSends(c, 8, 30, 31)
	queueRecvs(c, 5, 6)
	send(t, c, 9, 3, true, handed(5, 0))
	stands(t, c, list(1, 2), list(30, 31), 1)
	send(t, c, 9, 4, true, handed(6, 0))
	stands(t, c, list(1, 2), list(30, 31), 0)
	send(t, c, 9, 3, true, done(0))
	stands(t, c, list(1, 2, 3), list(30, 31), 0)
	send(t, c, 9, 32, true, waits())
	stands(t, c, list(1, 2, 3), list(30, 31, 32), 0)
	closes(t, c, 8, 8, 9)
}

func TestSendToNobody(t *testing.T) {
	for _, places := range []int{0, 1, 2, api.MaxCap} {
		c := made(t, places)
		full := count(1, places)
		fill(t, c, full...)
		send(t, c, 1, 100, false, waits())
		stands(t, c, full, nil, 0)
		send(t, c, 2, 0, true, waits())
		send(t, c, 3, most, false, waits())
		send(t, c, 4, most, true, waits())
		send(t, c, 2, 5, true, waits())
		stands(t, c, full, list(0, most, 5), 0)
		closes(t, c, 2, 4, 2)
	}
}

func TestSendToAClosedChannel(t *testing.T) {
	for _, places := range []int{0, 1, 2, api.MaxCap} {
		for n := range places + 1 {
			for _, wait := range []bool{false, true} {
				c := made(t, places)
				values := count(40, n)
				fill(t, c, values...)
				closes(t, c)
				send(t, c, 1, 5, wait, refused())
				stands(t, c, values, nil, 0)
				queueRecvs(c, 3)
				queueSends(c, 4, 60)
				send(t, c, 1, 6, wait, refused())
				stands(t, c, values, list(60), 1)
			}
		}
	}
}

func TestRecvOfTheFirstValue(t *testing.T) {
	for places := 1; places <= api.MaxCap; places++ {
		for _, wait := range []bool{false, true} {
			c := made(t, places)
			values := count(most, places)
			fill(t, c, values...)
			for i, v := range values {
				recv(t, c, i-3, wait, done(v))
				stands(t, c, values[i+1:], nil, 0)
			}
			recv(t, c, 1, false, waits())
			closes(t, c)
		}
	}
}

// Places that became free are taken again, so that values go round, in their order.
func TestPlacesAreTakenAgain(t *testing.T) {
	for _, places := range []int{1, 2, 3, api.MaxCap} {
		for n := range places {
			c := made(t, places)
			fill(t, c, count(0, n)...)
			for i := range uint64(5 * api.MaxCap) {
				fill(t, c, uint64(n)+i)
				stands(t, c, count(i, n+1), nil, 0)
				recv(t, c, 1, true, done(i))
			}
			stands(t, c, count(5*api.MaxCap, n), nil, 0)
		}
	}
}

// The value of the first who waits to send stands behind the others, and who waits behind them moves up.
func TestRecvBesideSomebodyWhoWaitsToSend(t *testing.T) {
	for _, places := range []int{1, 2, 3, api.MaxCap} {
		for _, wait := range []bool{false, true} {
			c := made(t, places)
			full := count(1, places)
			fill(t, c, full...)
			send(t, c, -6, 0, true, waits())
			send(t, c, 0, most, true, waits())
			recv(t, c, 9, wait, handed(-6, 1))
			full = append(full[1:], 0)
			stands(t, c, full, list(most), 0)
			recv(t, c, 9, wait, handed(0, full[0]))
			full = append(full[1:], most)
			stands(t, c, full, nil, 0)
			for i, v := range full {
				recv(t, c, 9, wait, done(v))
				stands(t, c, full[i+1:], nil, 0)
			}
			closes(t, c)
		}
	}
}

// Who was queued beside free places gets one only as one becomes free.
func TestRecvBesideSomebodyWhoWasQueued(t *testing.T) {
	c := made(t, 4)
	fill(t, c, 1, 2)
	queueSends(c, 5, 30, 31)
	queueRecvs(c, 6)
	recv(t, c, 7, false, handed(5, 1))
	stands(t, c, list(2, 30), list(31), 1)
	recv(t, c, 7, false, handed(5, 2))
	stands(t, c, list(30, 31), nil, 1)
	recv(t, c, 7, false, done(30))
	recv(t, c, 7, false, done(31))
	stands(t, c, nil, nil, 1)
	closes(t, c, 6)
}

func TestRecvFromSomebodyWhoWaitsToSend(t *testing.T) {
	for _, places := range []int{0, 1, api.MaxCap} {
		for _, wait := range []bool{false, true} {
			c := made(t, places)
			queueSends(c, 4, 0, most)
			queueSends(c, math.MinInt, 5)
			recv(t, c, 1, wait, handed(4, 0))
			stands(t, c, nil, list(most, 5), 0)
			recv(t, c, 1, wait, handed(4, most))
			recv(t, c, 1, wait, handed(math.MinInt, 5))
			stands(t, c, nil, nil, 0)
			recv(t, c, 1, false, waits())
			closes(t, c)
		}
	}
	c := made(t, 0)
	send(t, c, 0, 8, true, waits())
	recv(t, c, 1, true, handed(0, 8))
	stands(t, c, nil, nil, 0)
}

// What stands in a closed channel is received yet, and behind that it refuses.
func TestRecvOfAClosedChannel(t *testing.T) {
	for _, places := range []int{0, 1, 2, api.MaxCap} {
		for n := range places + 1 {
			for _, wait := range []bool{false, true} {
				c := made(t, places)
				fill(t, c, count(most, n)...)
				closes(t, c)
				for i := range n {
					recv(t, c, 5, wait, done(most+uint64(i)))
				}
				recv(t, c, 5, wait, refused())
				recv(t, c, 5, wait, refused())
				stands(t, c, nil, nil, 0)
			}
		}
	}
}

// A close of a full channel leaves what stands in its places, and nothing of those who waited to send.
func TestRecvBehindACloseOfAFullChannel(t *testing.T) {
	c := made(t, 2)
	fill(t, c, 1, 2)
	send(t, c, 7, 3, true, waits())
	closes(t, c, 7)
	stands(t, c, list(1, 2), nil, 0)
	recv(t, c, 5, true, done(1))
	recv(t, c, 5, true, done(2))
	recv(t, c, 5, true, refused())
}

func TestRecvOfAnOpenChannel(t *testing.T) {
	for _, places := range []int{0, 1, api.MaxCap} {
		c := made(t, places)
		recv(t, c, 1, false, waits())
		stands(t, c, nil, nil, 0)
		recv(t, c, 2, true, waits())
		recv(t, c, 3, false, waits())
		recv(t, c, 4, true, waits())
		stands(t, c, nil, nil, 2)
		recv(t, c, 2, true, waits())
		stands(t, c, nil, nil, 3)
		closes(t, c, 2, 4, 2)
	}
}

func TestQueueWhateverStandsThere(t *testing.T) {
	for _, places := range []int{0, 1, 2, api.MaxCap} {
		for n := range places + 1 {
			c := made(t, places)
			full := count(1, n)
			fill(t, c, full...)
			c.Queue(4, most, true)
			stands(t, c, full, list(most), 0)
			c.Queue(5, 11, false)
			stands(t, c, full, list(most), 1)
			c.Queue(6, 12, false)
			c.Queue(4, 0, true)
			stands(t, c, full, list(most, 0), 2)
			closes(t, c, 5, 6, 4, 4)
			stands(t, c, full, nil, 0)
			c.Queue(7, 13, true)
			stands(t, c, full, list(13), 0)
			c.Queue(8, 14, false)
			c.Queue(-9, 15, true)
			stands(t, c, full, list(13, 15), 1)
			keepsClosed(t, c)
			stands(t, c, full, list(13, 15), 1)
		}
	}
}

// Who was queued behind a close gives their value yet: a Recv refuses only where nobody waits to send.
func TestRecvFromSomebodyWhoWasQueuedBehindAClose(t *testing.T) {
	c := made(t, 1)
	fill(t, c, 1)
	closes(t, c)
	queueSends(c, 3, 20, 21, 22)
	recv(t, c, 1, false, handed(3, 1))
	stands(t, c, list(20), list(21, 22), 0)
	recv(t, c, 1, false, handed(3, 20))
	recv(t, c, 1, false, handed(3, 21))
	stands(t, c, list(22), nil, 0)
	recv(t, c, 1, false, done(22))
	recv(t, c, 1, false, refused())
	queueSends(c, 3, 23)
	recv(t, c, 1, true, handed(3, 23))
	recv(t, c, 1, true, refused())
}

// Somebody who was queued waits behind those who wait, and ahead of those who come behind them.
func TestQueueBehindTheOthers(t *testing.T) {
	c := made(t, 0)
	recv(t, c, 1, true, waits())
	c.Queue(2, 0, false)
	recv(t, c, 3, true, waits())
	for _, who := range []int{1, 2, 3} {
		send(t, c, 9, 4, false, handed(who, 0))
	}
	send(t, c, 1, 10, true, waits())
	c.Queue(2, 20, true)
	send(t, c, 3, 30, true, waits())
	for _, who := range []int{1, 2, 3} {
		recv(t, c, 9, false, handed(who, uint64(10*who)))
	}
	closes(t, c)
}

// stance is a channel to be made: its places, the values that stand there, how many wait, and whether it is closed ahead of their waiting.
type stance struct {
	places, values, sends, recvs int
	closed                       bool
}

// makeStance makes the channel.
func makeStance(t testing.TB, s stance) *chans.Chan {
	t.Helper()
	c := made(t, s.places)
	fill(t, c, count(100, s.values)...)
	if s.closed {
		closes(t, c)
	}
	queueSends(c, 1, count(200, s.sends)...)
	for range s.recvs {
		queueRecvs(c, 2)
	}
	return c
}

// stances are channels of all kinds.
func stances() []stance {
	var all []stance
	for _, places := range []int{0, 1, 2, api.MaxCap} {
		for values := range places + 1 {
			for who := range 9 {
				s := stance{places: places, values: values, sends: who % 3, recvs: who / 3}
				all = append(all, s)
				s.closed = true
				all = append(all, s)
			}
		}
	}
	return all
}

// Ready is what a Send, or a Recv, tells that is done to a channel of the same kind; it changes nothing.
func TestReady(t *testing.T) {
	for _, s := range stances() {
		name := fmt.Sprintf("%+v", s)
		c := makeStance(t, s)
		sends := s.closed || s.recvs > 0 || s.values < s.places
		recvs := s.closed || s.values > 0 || s.sends > 0
		for range 3 {
			if got := c.Ready(true); got != sends {
				t.Errorf("%s: Ready(true): %v", name, got)
			}
			if got := c.Ready(false); got != recvs {
				t.Errorf("%s: Ready(false): %v", name, got)
			}
		}
		stands(t, c, count(100, s.values), count(200, s.sends), s.recvs)
		closed(t, c, s.closed)
		for _, wait := range []bool{false, true} {
			if got := makeStance(t, s).Send(3, 4, wait); (got.What == chans.Waits) == sends {
				t.Errorf("%s: Send: %v", name, got)
			}
			if got := makeStance(t, s).Recv(3, wait); (got.What == chans.Waits) == recvs {
				t.Errorf("%s: Recv: %v", name, got)
			}
		}
	}
}

// Ready of each state, written by hand.
func TestReadyByHand(t *testing.T) {
	for _, x := range []struct {
		stance
		send, recv bool
	}{
		{stance{}, false, false},
		{stance{recvs: 1}, true, false},
		{stance{sends: 1}, false, true},
		{stance{sends: 1, recvs: 1}, true, true},
		{stance{closed: true}, true, true},
		{stance{places: 1}, true, false},
		{stance{places: 1, values: 1}, false, true},
		{stance{places: 1, values: 1, recvs: 1}, true, true},
		{stance{places: 1, values: 1, sends: 1}, false, true},
		{stance{places: 1, sends: 1}, true, true},
		{stance{places: 2, values: 1}, true, true},
		{stance{places: 1, closed: true}, true, true},
		{stance{places: 1, values: 1, closed: true}, true, true},
		{stance{places: 16, values: 15}, true, true},
		{stance{places: 16, values: 16}, false, true},
	} {
		c := makeStance(t, x.stance)
		if s, r := c.Ready(true), c.Ready(false); s != x.send || r != x.recv {
			t.Errorf("%+v: %v, %v", x, s, r)
		}
	}
}

func TestClose(t *testing.T) {
	for _, places := range []int{0, 1, 2, api.MaxCap} {
		c := made(t, places)
		full := count(1, places)
		fill(t, c, full...)
		c.Queue(8, 100, true)
		c.Queue(5, 0, false)
		c.Queue(3, 101, true)
		c.Queue(math.MinInt, 0, false)
		c.Queue(8, 102, true)
		c.Queue(0, 0, false)
		c.Queue(8, 0, false)
		closes(t, c, 5, math.MinInt, 0, 8, 8, 3, 8)
		stands(t, c, full, nil, 0)
		keepsClosed(t, c)
		stands(t, c, full, nil, 0)
		send(t, c, 1, 1, true, refused())
		for _, v := range full {
			recv(t, c, 1, true, done(v))
		}
		recv(t, c, 1, true, refused())
		keepsClosed(t, c)
	}
}

func TestCloseOfOneSide(t *testing.T) {
	c := made(t, 0)
	closes(t, c)
	c = made(t, 0)
	queueRecvs(c, 3, 1, 2)
	closes(t, c, 3, 1, 2)
	c = made(t, 0)
	queueSends(c, 3, 1)
	queueSends(c, 1, 1)
	closes(t, c, 3, 1)
	c = made(t, 1)
	fill(t, c, 5)
	queueSends(c, 7, 1)
	recv(t, c, 1, false, handed(7, 5))
	closes(t, c)
	stands(t, c, list(1), nil, 0)
}

func TestLeave(t *testing.T) {
	for _, places := range []int{0, 2, api.MaxCap} {
		c := made(t, places)
		full := count(1, places)
		fill(t, c, full...)
		for i, id := range []int{4, 5, 4, 4, 6, 0, 4} {
			c.Queue(id, uint64(100+i), true)
			c.Queue(id, 0, false)
		}
		for _, id := range []int{7, 1, -4, math.MaxInt, math.MinInt, 100} {
			c.Leave(id)
			stands(t, c, full, list(100, 101, 102, 103, 104, 105, 106), 7)
		}
		c.Leave(4)
		stands(t, c, full, list(101, 104, 105), 3)
		c.Leave(4)
		stands(t, c, full, list(101, 104, 105), 3)
		c.Queue(4, 107, true)
		c.Leave(0)
		stands(t, c, full, list(101, 104, 107), 2)
		closes(t, c, 5, 6, 5, 6, 4)
		c.Queue(9, 1, true)
		c.Queue(9, 1, false)
		c.Leave(9)
		stands(t, c, full, nil, 0)
		closed(t, c, true)
	}
}

// Of one who waits on one side only, and of all: the other side is as it was, and so are the values of the places.
func TestLeaveOfOneSide(t *testing.T) {
	c := made(t, 1)
	fill(t, c, 4)
	queueSends(c, 4, 4, 4)
	queueRecvs(c, 5, 6, 5)
	c.Leave(4)
	stands(t, c, list(4), nil, 3)
	c.Leave(5)
	stands(t, c, list(4), nil, 1)
	send(t, c, 1, 1, true, handed(6, 0))
	recv(t, c, 1, true, done(4))
	c.Leave(6)
	stands(t, c, nil, nil, 0)
	c.Leave(nobody)
	send(t, c, 1, 1, true, done(0))
	send(t, c, 1, 2, true, waits())
	c.Leave(1)
	stands(t, c, list(1), nil, 0)
	closes(t, c)
}

// One who is handed something at one of their places waits at the others yet.
func TestTheSameIdMoreThanOnce(t *testing.T) {
	c := made(t, 1)
	queueRecvs(c, 3, 3, 4, 3)
	queueSends(c, 3, 1, 1)
	send(t, c, 3, 9, true, handed(3, 0))
	stands(t, c, nil, list(1, 1), 3)
	send(t, c, 3, 9, true, handed(3, 0))
	send(t, c, 3, 9, true, handed(4, 0))
	stands(t, c, nil, list(1, 1), 1)
	recv(t, c, 3, true, handed(3, 1))
	stands(t, c, nil, list(1), 1)
	send(t, c, 3, 9, true, handed(3, 0))
	fill(t, c, 8)
	recv(t, c, 3, true, handed(3, 8))
	stands(t, c, list(1), nil, 0)
	closes(t, c)
}

// Behind each call, with values at both ends.
func TestCountsAndValuesBehindEachCall(t *testing.T) {
	c := made(t, 2)
	recv(t, c, 1, true, waits())
	stands(t, c, nil, nil, 1)
	send(t, c, 2, most, true, handed(1, 0))
	stands(t, c, nil, nil, 0)
	send(t, c, 2, most, true, done(0))
	stands(t, c, list(most), nil, 0)
	send(t, c, 2, 0, true, done(0))
	stands(t, c, list(most, 0), nil, 0)
	send(t, c, 3, most, true, waits())
	stands(t, c, list(most, 0), list(most), 0)
	send(t, c, 4, 0, true, waits())
	stands(t, c, list(most, 0), list(most, 0), 0)
	recv(t, c, 5, true, handed(3, most))
	stands(t, c, list(0, most), list(0), 0)
	c.Queue(6, most, true)
	stands(t, c, list(0, most), list(0, most), 0)
	c.Queue(6, most, false)
	stands(t, c, list(0, most), list(0, most), 1)
	c.Leave(4)
	stands(t, c, list(0, most), list(most), 1)
	recv(t, c, 5, true, handed(6, 0))
	stands(t, c, list(most, most), nil, 1)
	closes(t, c, 6)
	stands(t, c, list(most, most), nil, 0)
	recv(t, c, 5, true, done(most))
	stands(t, c, list(most), nil, 0)
}

// Many more than there are places may wait, and all go on in their order.
func TestManyWait(t *testing.T) {
	const many = 2000
	c := made(t, api.MaxCap)
	for i := range many {
		recv(t, c, i, true, waits())
	}
	for i := range many / 2 {
		send(t, c, nobody, 1, false, handed(i, 0))
	}
	for i := range many {
		c.Queue(i, uint64(i), true)
	}
	stands(t, c, nil, count(0, many), many/2)
	for i := range many {
		recv(t, c, nobody, false, handed(i, uint64(i)))
	}
	var rest []int
	for i := many / 2; i < many; i++ {
		rest = append(rest, i)
	}
	closes(t, c, rest...)
}

// spoil writes over a list and its spare room.
func spoil[T int | uint64](list []T) {
	list = list[:cap(list)]
	for i := range list {
		list[i] = 77
	}
}

// What is written into a list, in its spare room too, is seen in no other one, and not by the channel.
func TestListsAreNew(t *testing.T) {
	for _, s := range stances() {
		c := makeStance(t, s)
		places, sends := count(100, s.values), count(200, s.sends)
		first, second := c.Values(), c.Values()
		spoil(first)
		if want := slices.Concat(places, sends); !slices.Equal(second, want) {
			t.Errorf("%+v: two lists share memory: %d", s, second)
		}
		stands(t, c, places, sends, s.recvs)
		spoil(second)
		third := c.Values()
		queueSends(c, 1, 300)
		spoil(c.Values())
		stands(t, c, places, append(sends, 300), s.recvs)
		spoil(third)
		stands(t, c, places, append(sends, 300), s.recvs)
		for _, v := range places {
			if got := c.Recv(5, false); got.Value != v {
				t.Errorf("%+v: %v, want the value %d", s, got, v)
			}
		}
	}
}

func TestListsOfCloseAreNew(t *testing.T) {
	c := made(t, 1)
	fill(t, c, 1)
	queueRecvs(c, 2, 3, 4)
	queueSends(c, 5, 6, 7, 8)
	first, _ := c.Close()
	queueRecvs(c, 9, 10)
	queueSends(c, 11, 12)
	if want := []int{2, 3, 4, 5, 5, 5}; !slices.Equal(first, want) {
		t.Errorf("behind other calls: %d, want %d", first, want)
	}
	spoil(first)
	stands(t, c, list(1), list(12), 2)
	recv(t, c, 1, false, handed(11, 1))
}

func TestNilChannels(t *testing.T) {
	var c *chans.Chan
	for _, id := range numbers() {
		for _, wait := range []bool{false, true} {
			send(t, c, id, uint64(id), wait, chans.Result{})
			recv(t, c, id, wait, chans.Result{})
			c.Queue(id, uint64(id), wait)
			if c.Ready(wait) {
				t.Errorf("Ready(%v)", wait)
			}
		}
		c.Leave(id)
	}
	stands(t, c, nil, nil, 0)
	closed(t, c, false)
	if ids, is := c.Close(); len(ids) != 0 || is {
		t.Errorf("Close: %d, %v", ids, is)
	}
	closed(t, c, false)
}

// Channels that are told the same answer the same, though others were told much between.
func TestAnswersHangOnWhatWasTold(t *testing.T) {
	first := walk(t)
	other := made(t, 2)
	fill(t, other, 4)
	queueRecvs(other, 5)
	if second := walk(t); second != first {
		t.Errorf("first %s, and then %s", first, second)
	}
	stands(t, other, list(4), nil, 1)
	closes(t, other, 5)
}

// walk is what a channel answers to some calls.
func walk(t *testing.T) string {
	c := made(t, 3)
	told := ""
	for i := range 90 {
		s := c.Send(i, uint64(i*i), i%2 == 0)
		c.Queue(i, 5, i%7 == 0)
		r := c.Recv(i%11, i%3 == 0)
		c.Leave(i % 13)
		told += fmt.Sprint(" ", s, r, c.Values(), c.Ready(true), c.Ready(false))
	}
	ids, is := c.Close()
	return told + fmt.Sprint(" ", ids, is)
}

func TestEachShortRowOfCalls(t *testing.T) {
	for places, length := range []int{4, 5, 4} {
		rows := 1
		for range length {
			rows *= shortCalls
		}
		for row := range rows {
			p := newPair(t, places)
			for range length {
				p.short(row % shortCalls)
				row /= shortCalls
			}
			p.drain()
			if t.Failed() {
				t.FailNow()
			}
		}
	}
}

// The walks go over empty channels and over full ones, with few who wait and with many; every second one is closed half way.
func TestLongWalk(t *testing.T) {
	seed := uint64(12)
	random := func(n int) int {
		seed = seed*6364136223846793005 + 1442695040888963407
		return int(seed >> 33 % uint64(n))
	}
	for places := range api.MaxCap + 1 {
		for turn := range 8 {
			p := newPair(t, places)
			for i := range 600 {
				if turn%2 == 1 && i == 300 {
					p.close()
				}
				kinds := 3 + i/100%3
				p.act(random(kinds)+(i/60+turn)%3, random(5)-1, random(2) == 0)
			}
			p.drain()
			if t.Failed() {
				t.FailNow()
			}
		}
	}
}

// A call that panics fails the test by itself.
func FuzzCalls(f *testing.F) {
	for i, x := range numbers() {
		f.Add(byte(i), x, uint64(x), []byte{byte(i), 1, 2, 3})
		f.Add(byte(8), i, uint64(i), []byte("abcdefgabcdefggggaaafffddd"))
	}
	f.Fuzz(func(t *testing.T, places byte, id int, value uint64, calls []byte) {
		p := newPair(t, int(places)%(api.MaxCap+1))
		p.value = value
		for _, c := range calls[:min(len(calls), 300)] {
			p.act(int(c)%8, id+int(c)/16%3, c/8%2 == 0)
		}
		p.drain()
	})
}
