package mooring_test

import (
	"math"
	"testing"

	"mooring/api"
)

func TestLoseAndReturnRefuse(t *testing.T) {
	x := moored(t, usual)
	for _, i := range []int{math.MinInt, -1, 3, 4, 1 << 32, math.MaxInt} {
		answers(t, "Lose of nobody", x.Lose(i), api.ErrArg)
		answers(t, "Return of nobody", x.Return(i), api.ErrArg)
	}
	answers(t, "Return of one that is up", x.Return(2), api.ErrUp)
	traceIs(t, x, 0)
	answers(t, "Lose", x.Lose(2), api.OK)
	answers(t, "Lose of one that is down", x.Lose(2), api.ErrDown)
	answers(t, "Return", x.Return(2), api.OK)
	answers(t, "Return of one that is up again", x.Return(2), api.ErrUp)
	traceIs(t, x, 0, api.Event{Kind: api.Down, Node: -3}, api.Event{Kind: api.Up, Node: -3})
}

func TestOneThatIsLostDoesNothing(t *testing.T) {
	x := moored(t, usual)
	does(t, x, 1, api.Acquire, 0, 50)
	begins(t, x, 1, api.Query, 0, 0)
	deliver(x, of(api.Prepare))
	answers(t, "Lose", x.Lose(1), api.OK)
	busyIs(t, x, 1, false)
	holdIs(t, x, 1, 0, false)
	answers(t, "Begin of one that is down", x.Begin(1, api.Query, 0, 0), api.ErrDown)
	answers(t, "Tick of one that is down", x.Tick(1), api.ErrDown)
	from := happened(x)
	settle(x)
	traceIs(t, x, from)
	if n := len(endings(x, 1)); n != 1 {
		t.Errorf("%d operations have ended, want 1: what is lost does not end", n)
	}
}

func TestOthersStayWhenOneIsLost(t *testing.T) {
	x := moored(t, usual)
	does(t, x, 0, api.Acquire, 0, 50)
	begins(t, x, 2, api.Acquire, 1, 50)
	answers(t, "Lose", x.Lose(1), api.OK)
	holdIs(t, x, 0, 0, true)
	busyIs(t, x, 2, true)
	settle(x)
	endIs(t, x, 2, api.Granted, 3, 258, 258)
	passes(t, x, 0, 49)
	holdIs(t, x, 0, 0, true)
}

func TestOneThatReturnsHasNothing(t *testing.T) {
	x := moored(t, usual)
	does(t, x, 0, api.Acquire, 0, 50)
	does(t, x, 1, api.Acquire, 1, 5)
	does(t, x, 0, api.Query, 1, 0)
	passes(t, x, 0, 30)
	begins(t, x, 0, api.Renew, 0, 40)
	answers(t, "Lose", x.Lose(0), api.OK)
	answers(t, "Return", x.Return(0), api.OK)
	busyIs(t, x, 0, false)
	holdIs(t, x, 0, 0, false)
	settle(x)
	busyIs(t, x, 0, false)
	// Its token is gone, and the round that it had seen.
	begins(t, x, 0, api.Renew, 0, 9)
	if m := x.Net(); len(m) != 3 || m[0].Ballot != 256+4 {
		t.Errorf("Net() = %+v, want the ballot 260", m)
	}
	settle(x)
	endIs(t, x, 0, api.NotOwner, 0, 0, 4*256+4)
	// Its watch is gone: this incarnation was never told of that lock.
	passes(t, x, 0, 50)
	does(t, x, 0, api.Acquire, 1, 9)
	endIs(t, x, 0, api.Held, 2, 257, 5*256+4)
	passes(t, x, 0, 6)
	does(t, x, 0, api.Acquire, 1, 9)
	endIs(t, x, 0, api.Held, 2, 257, 6*256+4)
	passes(t, x, 0, 1)
	does(t, x, 0, api.Acquire, 1, 9)
	endIs(t, x, 0, api.Granted, 1, 7*256+4, 7*256+4)
	holdEnds(t, x, 0, 1, 9)
}

func TestOneThatReturnsOwnsWithoutAToken(t *testing.T) {
	x := moored(t, usual)
	does(t, x, 0, api.Acquire, 0, 50)
	answers(t, "Lose", x.Lose(0), api.OK)
	answers(t, "Return", x.Return(0), api.OK)
	does(t, x, 0, api.Release, 0, 0)
	endIs(t, x, 0, api.NotOwner, 0, 0, 256+4)
	valueIs(t, x, 0, 256+4, value(0, 256, 50, 1))
	does(t, x, 0, api.Acquire, 0, 20)
	endIs(t, x, 0, api.Granted, 1, 512+4, 512+4)
}

func TestMessagesToAnEarlierIncarnationDoNothing(t *testing.T) {
	x := moored(t, usual)
	begins(t, x, 0, api.Acquire, 0, 50)
	deliver(x, of(api.Prepare))
	answers(t, "Lose", x.Lose(0), api.OK)
	answers(t, "Return", x.Return(0), api.OK)
	begins(t, x, 0, api.Acquire, 0, 30)
	from := happened(x)
	deliver(x, of(api.Promise))
	traceIs(t, x, from)
	netIs(t, x, prepares(0, 0, 260, 3)...)
}

func TestIncarnationsRunOut(t *testing.T) {
	x := moored(t, with(func(c *api.Config) { c.Clients = 4 }))
	for i := 1; i <= 63; i++ {
		answers(t, "Lose", x.Lose(3), api.OK)
		answers(t, "Return", x.Return(3), api.OK)
		begins(t, x, 3, api.Query, 0, 0)
		if m := x.Net(); len(m) != 3 || m[0].Ballot != 256+4*i+3 {
			t.Fatalf("incarnation %d: %+v", i, m)
		}
		drop(x, anything)
	}
	answers(t, "Return of one that is up", x.Return(3), api.ErrUp)
	answers(t, "Lose", x.Lose(3), api.OK)
	from := happened(x)
	for range 2 {
		answers(t, "Return once too often", x.Return(3), api.ErrExhausted)
	}
	answers(t, "Lose of one that is exhausted", x.Lose(3), api.ErrDown)
	traceIs(t, x, from)
	answers(t, "Tick of another", x.Tick(0), api.OK)
}
