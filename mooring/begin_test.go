package mooring_test

import (
	"math"
	"testing"

	"mooring/api"
	"mooring/mooring"
)

func TestBeginRefusesWrongNumbers(t *testing.T) {
	x := moored(t, usual)
	does(t, x, 0, api.Acquire, 0, 5)
	ahead := look(x)
	for _, c := range [][4]int{
		{-1, api.Query, 0, 1}, {3, api.Query, 0, 1}, {4, api.Query, 0, 1},
		{0, 0, 0, 1}, {0, 5, 0, 1}, {0, -1, 0, 1},
		{0, api.Query, -1, 1}, {0, api.Query, 4, 1},
		{0, api.Acquire, 0, 0}, {0, api.Acquire, 0, 1001}, {0, api.Acquire, 0, -1},
		{0, api.Renew, 0, 0}, {0, api.Renew, 0, 1001}, {0, api.Renew, 0, -1},
		{-1, 0, -1, 0}, {3, 5, 4, 1001},
	} {
		answers(t, "Begin", x.Begin(c[0], c[1], c[2], c[3]), api.ErrArg)
	}
	for _, n := range []int{math.MinInt, math.MaxInt, 1 << 32, -1 << 32, 1<<32 + 1} {
		answers(t, "Begin, odd client", x.Begin(n, api.Query, 0, 0), api.ErrArg)
		answers(t, "Begin, odd kind", x.Begin(0, n, 0, 0), api.ErrArg)
		answers(t, "Begin, odd lock", x.Begin(0, api.Query, n, 0), api.ErrArg)
		answers(t, "Begin, odd ttl", x.Begin(0, api.Acquire, 0, n), api.ErrArg)
	}
	if !look(x).is(ahead) {
		t.Errorf("a Begin that was refused has changed something")
	}
	holdEnds(t, x, 0, 0, 5)
}

func TestBeginNamesTheFirstOfItsErrors(t *testing.T) {
	x := moored(t, usual)
	begins(t, x, 0, api.Query, 0, 0)
	answers(t, "Begin of a busy one, no kind", x.Begin(0, 0, 0, 0), api.ErrArg)
	answers(t, "Begin of a busy one, no ttl", x.Begin(0, api.Renew, 0, 0), api.ErrArg)
	answers(t, "Begin of a busy one", x.Begin(0, api.Renew, 0, 1), api.ErrBusy)
	answers(t, "Lose", x.Lose(0), api.OK)
	answers(t, "Begin of one that is down, no lock", x.Begin(0, api.Query, 4, 0), api.ErrArg)
	answers(t, "Begin of one that was busy, and is down", x.Begin(0, api.Query, 0, 0), api.ErrDown)
}

func TestBeginAtTheBounds(t *testing.T) {
	for _, op := range []api.Op{
		{Kind: api.Acquire, Lock: 0, Ttl: 1}, {Kind: api.Acquire, Lock: 3, Ttl: 1000},
		{Kind: api.Renew, Lock: 3, Ttl: 1}, {Kind: api.Renew, Lock: 0, Ttl: 1000},
	} {
		x := moored(t, usual)
		begins(t, x, 2, op.Kind, op.Lock, op.Ttl)
		beganIs(t, x, 2, op)
	}
}

func beganIs(t *testing.T, x *mooring.Mooring, client int, op api.Op) {
	t.Helper()
	all := prepares(client, op.Lock, 256+client, 3)
	want := []api.Event{{Kind: api.Began, Node: client, Op: op}}
	for _, m := range all {
		want = append(want, api.Event{Kind: api.Sent, Message: m})
	}
	traceIs(t, x, 0, want...)
	netIs(t, x, all...)
	busyIs(t, x, client, true)
}

func TestBeginOfAReleaseOrQueryTakesAnyTtl(t *testing.T) {
	for _, kind := range []int{api.Release, api.Query} {
		for _, ttl := range append([]int{7, 1000, 1001}, oddNumbers...) {
			x := moored(t, usual)
			begins(t, x, 1, kind, 2, ttl)
			beganIs(t, x, 1, api.Op{Kind: kind, Lock: 2})
			settle(x)
			if all := endings(x, 1); len(all) != 1 || all[0].Op != (api.Op{Kind: kind, Lock: 2}) {
				t.Errorf("ended: %+v", all)
			}
		}
	}
}

func TestBusyFromBeginToEnd(t *testing.T) {
	x := moored(t, usual)
	for _, i := range append([]int{3, 4}, math.MinInt, -1, math.MaxInt) {
		busyIs(t, x, i, false)
	}
	begins(t, x, 1, api.Acquire, 0, 9)
	busyIs(t, x, 0, false)
	busyIs(t, x, 1, true)
	for len(endings(x, 1)) == 0 {
		busyIs(t, x, 1, true)
		answers(t, "Begin", x.Begin(1, api.Query, 3, 0), api.ErrBusy)
		answers(t, "Deliver", x.Deliver(0), api.OK)
	}
	busyIs(t, x, 1, false)
	begins(t, x, 1, api.Query, 0, 0)
	answers(t, "Lose", x.Lose(1), api.OK)
	busyIs(t, x, 1, false)
}

func TestRoundsFollowTheGreatestSeen(t *testing.T) {
	x := moored(t, usual)
	for i := range 3 {
		does(t, x, 0, api.Query, i, 0)
		endIs(t, x, 0, api.Told, 0, 0, 256*(i+1))
	}
	// Client 1 is told of round 3 by a Nack only if it meets it at that lock.
	does(t, x, 1, api.Query, 0, 0)
	endIs(t, x, 1, api.Told, 0, 0, 257)
	does(t, x, 1, api.Query, 2, 0)
	endIs(t, x, 1, api.Told, 0, 0, 4*256+1)
	if n := len(endings(x, 1)); n != 2 {
		t.Errorf("%d operations have ended, want 2", n)
	}
}

// queries has client 0 use up so many rounds.
func queries(t *testing.T, x *mooring.Mooring, rounds int) {
	t.Helper()
	for range rounds {
		does(t, x, 0, api.Query, 0, 0)
	}
}

func TestNoRoundIsLeft(t *testing.T) {
	x := moored(t, with(func(c *api.Config) { c.Tries = 2 }))
	queries(t, x, 999)
	does(t, x, 0, api.Acquire, 1, 1000)
	endIs(t, x, 0, api.Granted, 1, 256000, 256000)
	from := happened(x)
	begins(t, x, 0, api.Renew, 1, 7)
	op := api.Op{Kind: api.Renew, Lock: 1, Ttl: 7}
	traceIs(t, x, from, api.Event{Kind: api.Began, Op: op}, api.Event{Kind: api.Ended, Op: op, Result: api.Exhausted})
	netIs(t, x)
	busyIs(t, x, 0, false)
	holdEnds(t, x, 0, 1, 7)
}

func TestNoRoundIsLeftForAnotherAttempt(t *testing.T) {
	x := moored(t, with(func(c *api.Config) { c.Tries = 2 }))
	queries(t, x, 1000)
	does(t, x, 1, api.Query, 0, 0)
	endIs(t, x, 1, api.Exhausted, 0, 0, 257)
	does(t, x, 1, api.Query, 0, 0)
	endIs(t, x, 1, api.Exhausted, 0, 0, 0)
}

func TestTriesAreCountedAheadOfRounds(t *testing.T) {
	x := moored(t, with(func(c *api.Config) { c.Tries = 1 }))
	queries(t, x, 1000)
	does(t, x, 1, api.Query, 0, 0)
	endIs(t, x, 1, api.Unknown, 0, 0, 257)
}
