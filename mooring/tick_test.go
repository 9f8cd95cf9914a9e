package mooring_test

import (
	"math"
	"slices"
	"testing"

	"mooring/api"
)

func TestTickRefuses(t *testing.T) {
	x := moored(t, usual)
	for _, i := range []int{-1, 3, 4, math.MinInt, math.MaxInt} {
		answers(t, "Tick of nobody", x.Tick(i), api.ErrArg)
	}
	answers(t, "Lose", x.Lose(1), api.OK)
	answers(t, "Tick of one that is down", x.Tick(1), api.ErrDown)
	answers(t, "Tick of another", x.Tick(0), api.OK)
}

func TestTickIsNoEventWhileNothingIsDone(t *testing.T) {
	x := moored(t, usual)
	passes(t, x, 0, 50)
	traceIs(t, x, 0)
	netIs(t, x)
}

func TestPatienceEndsAttempts(t *testing.T) {
	for _, patience := range []int{1, 2, 20} {
		x := moored(t, with(func(c *api.Config) { c.Patience, c.Tries = patience, 3 }))
		passes(t, x, 1, 7)
		begins(t, x, 1, api.Acquire, 2, 9)
		for round := 1; round <= 3; round++ {
			netIs(t, x, prepares(1, 2, 256*round+1, 3)...)
			drop(x, anything)
			passes(t, x, 0, 2*patience)
			passes(t, x, 1, patience-1)
			netIs(t, x)
			busyIs(t, x, 1, true)
			passes(t, x, 1, 1)
		}
		netIs(t, x)
		busyIs(t, x, 1, false)
		endIs(t, x, 1, api.Unknown, 0, 0, 3*256+1)
	}
}

func TestPatienceCountsFromTheAttempt(t *testing.T) {
	x := moored(t, with(func(c *api.Config) { c.Patience, c.Tries = 4, 8 }))
	does(t, x, 1, api.Query, 0, 0)
	does(t, x, 1, api.Query, 0, 0)
	begins(t, x, 0, api.Query, 0, 0)
	passes(t, x, 0, 3)
	settle(x)
	endIs(t, x, 0, api.Told, 0, 0, 3*256)
	begins(t, x, 0, api.Query, 0, 0)
	passes(t, x, 0, 3)
	propose(x)
	// The Accepts do not make the attempt begin again.
	drop(x, of(api.Accept))
	passes(t, x, 0, 1)
	netIs(t, x, prepares(0, 0, 5*256, 3)...)
}

func TestANackMakesTheNextAttemptBeginThen(t *testing.T) {
	x := moored(t, with(func(c *api.Config) { c.Patience = 4 }))
	does(t, x, 1, api.Query, 0, 0)
	begins(t, x, 0, api.Query, 0, 0)
	passes(t, x, 0, 3)
	deliver(x, of(api.Prepare))
	deliver(x, of(api.Nack))
	drop(x, anything)
	passes(t, x, 0, 3)
	netIs(t, x)
	passes(t, x, 0, 1)
	netIs(t, x, prepares(0, 0, 3*256, 3)...)
}

func TestPatienceEndsWhatWaitsForAccepted(t *testing.T) {
	x := moored(t, with(func(c *api.Config) { c.Tries = 1 }))
	begins(t, x, 0, api.Acquire, 0, 20)
	propose(x)
	deliver(x, of(api.Accept))
	deliver(x, of(api.Accepted, 0))
	passes(t, x, 0, 5)
	endIs(t, x, 0, api.Unknown, 0, 0, 256)
	deliver(x, anything)
	holdIs(t, x, 0, 0, false)
	if n := len(endings(x, 0)); n != 1 {
		t.Errorf("%d ends of one operation", n)
	}
}

func TestHoldsOfNobodyOrNothing(t *testing.T) {
	x := moored(t, usual)
	does(t, x, 0, api.Acquire, 0, 1000)
	for _, n := range slices.DeleteFunc(slices.Clone(oddNumbers), func(n int) bool { return n == 0 }) {
		holdIs(t, x, n, 0, false)
		holdIs(t, x, 0, n, false)
		holdIs(t, x, n, n, false)
	}
	holdIs(t, x, 0, 0, true)
}

func TestHoldLastsFromTheBeginningOfItsOperation(t *testing.T) {
	for _, ttl := range []int{1, 2, 10, 1000} {
		x := moored(t, usual)
		passes(t, x, 0, 13)
		does(t, x, 0, api.Acquire, 3, ttl)
		holdEnds(t, x, 0, 3, ttl)
	}
	x := moored(t, usual)
	begins(t, x, 0, api.Acquire, 3, 10)
	passes(t, x, 0, 4)
	settle(x)
	holdEnds(t, x, 0, 3, 6)
	begins(t, x, 0, api.Acquire, 3, 3)
	passes(t, x, 0, 4)
	settle(x)
	endIs(t, x, 0, api.Granted, 1, 512, 512)
	holdIs(t, x, 0, 3, false)
}

func TestHoldLastsFromTheBeginningNotTheAttempt(t *testing.T) {
	x := moored(t, usual)
	begins(t, x, 0, api.Acquire, 3, 10)
	passes(t, x, 0, 5)
	drop(x, of(api.Prepare, 0))
	settle(x)
	endIs(t, x, 0, api.Granted, 1, 512, 512)
	holdEnds(t, x, 0, 3, 5)
}

func TestHoldIsShortenedByWhatBegins(t *testing.T) {
	for _, c := range []struct{ kind, ttl, left int }{
		{api.Acquire, 4, 4}, {api.Renew, 4, 4}, {api.Acquire, 14, 14}, {api.Renew, 14, 14},
		{api.Acquire, 15, 15}, {api.Renew, 15, 15}, {api.Acquire, 16, 15}, {api.Renew, 1000, 15},
		{api.Query, 0, 15}, {api.Release, 1000, 0},
	} {
		x := moored(t, with(func(c *api.Config) { c.Patience = 20 }))
		does(t, x, 0, api.Acquire, 1, 20)
		does(t, x, 0, api.Acquire, 2, 20)
		passes(t, x, 0, 5)
		begins(t, x, 0, c.kind, 1, c.ttl)
		holdEnds(t, x, 0, 1, c.left)
		holdIs(t, x, 0, 2, c.left < 15)
	}
}

func TestNothingIsHeldByWhatOnlyBegins(t *testing.T) {
	for _, kind := range []int{api.Acquire, api.Renew} {
		x := moored(t, usual)
		begins(t, x, 0, kind, 1, 20)
		holdIs(t, x, 0, 1, false)
	}
}

func TestHoldThatWasShortenedStaysSo(t *testing.T) {
	x := moored(t, with(func(c *api.Config) { c.Tries, c.Patience = 1, 1 }))
	does(t, x, 0, api.Acquire, 0, 100)
	begins(t, x, 0, api.Renew, 0, 6)
	passes(t, x, 0, 1)
	endIs(t, x, 0, api.Unknown, 0, 0, 512)
	holdEnds(t, x, 0, 0, 5)
}

func TestHoldEndsWithNotOwner(t *testing.T) {
	x := moored(t, usual)
	does(t, x, 0, api.Acquire, 0, 100)
	does(t, x, 1, api.Query, 0, 0)
	passes(t, x, 1, 102)
	does(t, x, 1, api.Acquire, 0, 50)
	endIs(t, x, 1, api.Granted, 2, 513, 513)
	does(t, x, 0, api.Renew, 0, 100)
	endIs(t, x, 0, api.NotOwner, 0, 0, 768)
	holdIs(t, x, 0, 0, false)
}

func TestARenewalLengthensTheHold(t *testing.T) {
	x := moored(t, usual)
	does(t, x, 0, api.Acquire, 0, 10)
	passes(t, x, 0, 8)
	does(t, x, 0, api.Renew, 0, 30)
	endIs(t, x, 0, api.Granted, 1, 256, 512)
	holdEnds(t, x, 0, 0, 30)
	does(t, x, 0, api.Renew, 0, 3)
	endIs(t, x, 0, api.Granted, 1, 256, 768)
	holdEnds(t, x, 0, 0, 3)
}
