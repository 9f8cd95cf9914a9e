package mooring_test

import (
	"math/rand"
	"testing"

	"mooring/api"
	"mooring/mooring"
)

// clocks lets time go by at clients, as unevenly as the configuration says that
// it may.
type clocks struct {
	drift int
	up    []bool
	// ahead has for two clients by how many tenths the one's clock has gone on
	// more than it may in the long run, and least the least that this has been
	// since both are up.
	ahead, least [][]int
}

func newClocks(clients, drift int) *clocks {
	c := &clocks{drift: drift}
	for range clients {
		c.up = append(c.up, true)
		c.ahead = append(c.ahead, make([]int, clients))
		c.least = append(c.least, make([]int, clients))
	}
	return c
}

func (c *clocks) mayTick(client int) bool {
	for other, up := range c.up {
		if other != client && up && c.ahead[client][other]+10-c.least[client][other] > 20 {
			return false
		}
	}
	return true
}

func (c *clocks) tick(client int) {
	for other := range c.up {
		c.ahead[client][other] += 10
		c.ahead[other][client] -= 10 + c.drift
		c.least[other][client] = min(c.least[other][client], c.ahead[other][client])
	}
}

func (c *clocks) lose(client int) { c.up[client] = false }

func (c *clocks) restart(client int) {
	c.up[client] = true
	for other := range c.up {
		c.ahead[client][other], c.least[client][other] = 0, 0
		c.ahead[other][client], c.least[other][client] = 0, 0
	}
}

func noneHoldWithAnother(t *testing.T, x *mooring.Mooring, clients int) {
	t.Helper()
	for lock := range api.MaxLocks {
		holders := 0
		for i := range clients {
			if x.Holds(i, lock) {
				holders++
			}
		}
		if holders > 1 {
			t.Fatalf("%d clients hold lock %d", holders, lock)
		}
	}
}

// TestTheFastestDoesNotOvertakeTheSlowest: a lock is watched from the moment on in
// which it was taken, and its owner's clock is as slow as it may be.
func TestTheFastestDoesNotOvertakeTheSlowest(t *testing.T) {
	for drift := 0; drift <= 10; drift++ {
		for ttl := 1; ttl <= 30; ttl++ {
			x := moored(t, with(func(c *api.Config) { c.Clients, c.Drift = 2, drift }))
			begins(t, x, 0, api.Acquire, 0, ttl)
			propose(x)
			deliver(x, of(api.Accept))
			does(t, x, 1, api.Query, 0, 0)
			holdIs(t, x, 0, 0, true)
			if !takenOver(t, x, newClocks(2, drift), 2*ttl+5) {
				t.Errorf("Drift %d, ttl %d: the lock is not taken over", drift, ttl)
			}
		}
	}
}

// takenOver lets client 1 ask for the lock at each of its ticks, until it is
// granted, or so many ticks of client 0 have gone by.
func takenOver(t *testing.T, x *mooring.Mooring, time *clocks, ticks int) bool {
	t.Helper()
	for range ticks {
		for time.mayTick(1) {
			time.tick(1)
			passes(t, x, 1, 1)
			does(t, x, 1, api.Acquire, 0, 5)
			noneHoldWithAnother(t, x, 2)
		}
		if x.Holds(1, 0) {
			return true
		}
		time.tick(0)
		passes(t, x, 0, 1)
	}
	return false
}

// TestNeverTwoHold: whatever happens to messages, clients and acceptors.
func TestNeverTwoHold(t *testing.T) {
	granted := 0
	for seed := range 150 {
		r := rand.New(rand.NewSource(int64(seed)))
		c := with(func(c *api.Config) {
			c.F, c.Clients, c.Drift = 1+seed%2, 2+seed%3, seed%11
			c.Patience, c.Tries = 2+r.Intn(19), 1+r.Intn(8)
		})
		x := moored(t, c)
		time := newClocks(c.Clients, c.Drift)
		for range 1500 {
			happenAtRandom(x, r, time, c.Clients)
			noneHoldWithAnother(t, x, c.Clients)
		}
		for _, e := range x.Trace(0) {
			if e.Kind == api.Ended && e.Result == api.Granted {
				granted++
			}
		}
	}
	if granted < 1500 {
		t.Errorf("only %d operations were granted", granted)
	}
}

func happenAtRandom(x *mooring.Mooring, r *rand.Rand, time *clocks, clients int) {
	client := r.Intn(clients)
	switch n := r.Intn(100); {
	case n < 15:
		x.Begin(client, 1+r.Intn(4), r.Intn(5)/4, 1+r.Intn(12))
	case n < 45:
		if time.up[client] && time.mayTick(client) {
			time.tick(client)
			x.Tick(client)
		}
	case n < 49:
		x.Drop(r.Intn(6))
	case n < 53:
		x.Copy(r.Intn(6))
	case n < 54:
		if x.Lose(client) == api.OK {
			time.lose(client)
		} else if x.Return(client) == api.OK {
			time.restart(client)
		}
	case n < 55:
		x.Fail(r.Intn(5), r.Intn(12), r.Intn(30))
	case n < 62:
		x.Start(r.Intn(5))
	default:
		for range r.Intn(12) {
			x.Deliver(r.Intn(3))
		}
	}
}
