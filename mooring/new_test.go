package mooring_test

import (
	"testing"

	"mooring/api"
	"mooring/mooring"
)

func TestNewRefusesWhatIsNoConfiguration(t *testing.T) {
	for _, b := range bounds {
		for _, c := range configs() {
			for _, n := range append([]int{b.least - 1, b.most + 1}, oddNumbers...) {
				*b.field(&c) = n
				x, e := mooring.New(c)
				if want := mooring.Check(c); e != want || (x == nil) != (want != api.OK) {
					t.Errorf("New(%+v) = %v, %d, want %d", c, x, e, want)
				}
			}
		}
	}
}

func TestNewIsAllUpAndStill(t *testing.T) {
	for f := 1; f <= 2; f++ {
		for clients := 1; clients <= api.MaxClients; clients++ {
			x := moored(t, with(func(c *api.Config) { c.F, c.Clients = f, clients }))
			netIs(t, x)
			traceIs(t, x, 0)
			for i := range 2*f + 1 {
				tableIs(t, x, i)
				logIs(t, x, i)
			}
			for i := range 2*f + 1 {
				answers(t, "Start of one that is up", x.Start(i), api.ErrUp)
			}
			for i := range clients {
				answers(t, "Return of one that is up", x.Return(i), api.ErrUp)
				busyIs(t, x, i, false)
				for lock := range api.MaxLocks {
					holdIs(t, x, i, lock, false)
				}
			}
			_, table := x.Table(2*f + 1)
			_, log := x.Log(2*f + 1)
			answers(t, "Table of one too many", table, api.ErrArg)
			answers(t, "Log of one too many", log, api.ErrArg)
			answers(t, "Fail of one too many", x.Fail(2*f+1, 0, 0), api.ErrArg)
			answers(t, "Start of one too many", x.Start(2*f+1), api.ErrArg)
			answers(t, "Tick of one too many", x.Tick(clients), api.ErrArg)
		}
	}
}

func TestNewClientsHaveTheirFirstBallot(t *testing.T) {
	x := moored(t, with(func(c *api.Config) { c.F, c.Clients = 2, 4 }))
	for i := range 4 {
		begins(t, x, i, api.Query, 0, 0)
	}
	for n, m := range x.Net() {
		want := api.Message{Kind: api.Prepare, From: n / 5, To: n % 5, Ballot: 256 + n/5}
		if m != want {
			t.Errorf("message %d is %+v, want %+v", n, m, want)
		}
	}
}

func TestMooringsDoNotTouchOneAnother(t *testing.T) {
	x, y, z := moored(t, usual), moored(t, usual), moored(t, usual)
	does(t, y, 0, api.Acquire, 1, 10)
	still, ahead := look(z), look(y)
	does(t, x, 0, api.Acquire, 1, 20)
	does(t, x, 1, api.Query, 1, 0)
	begins(t, x, 0, api.Release, 1, 0)
	answers(t, "Lose", x.Lose(2), api.OK)
	passes(t, x, 0, 3)
	fails(t, x, 0, 0, 0)
	fails(t, x, 1, 1, 0)
	settle(x)
	starts(t, x, 0)
	if !look(y).is(ahead) || !look(z).is(still) {
		t.Errorf("what is done to one mooring is seen in another")
	}
	holdEnds(t, y, 0, 1, 10)
}
