package mooring_test

import (
	"math/rand"
	"testing"

	"mooring/api"
	"mooring/mooring"
)

// storm is what happens at random to the messages, clients and acceptors of a
// mooring.
type storm struct {
	*mooring.Mooring
	r     *rand.Rand
	c     api.Config
	locks int
}

// storms calls see with a storm of each of so many seeds.
func storms(t *testing.T, seeds int, see func(*storm)) {
	t.Helper()
	for seed := range seeds {
		r := rand.New(rand.NewSource(int64(seed)))
		c := api.Config{
			F:        1 + r.Intn(2),
			Clients:  1 + r.Intn(4),
			Patience: 2 + r.Intn(9),
			Tries:    1 + r.Intn(8),
			Drift:    r.Intn(11),
			Compact:  2 + r.Intn(1+r.Intn(15)),
		}
		c.Room = 25 * (c.Compact + 10)
		see(&storm{moored(t, c), r, c, 1 + seed%2*r.Intn(4)})
		if t.Failed() {
			t.Fatalf("seed %d: %+v", seed, c)
		}
	}
}

func (s *storm) acceptors() int { return 2*s.c.F + 1 }

// strike is one thing that happens.
func (s *storm) strike() {
	client := s.r.Intn(s.c.Clients)
	switch n := s.r.Intn(100); {
	case n < 14:
		kind := []int{api.Acquire, api.Acquire, api.Renew, api.Release, api.Query}[s.r.Intn(5)]
		s.Begin(client, kind, s.r.Intn(s.locks), 1+s.r.Intn(6))
	case n < 28:
		s.Tick(client)
	case n < 31:
		s.Drop(s.r.Intn(9))
	case n < 34:
		s.Copy(s.r.Intn(9))
	case n < 35:
		s.loseOrReturn(client)
	case n < 42:
		s.failOrStart(s.r.Intn(s.acceptors()))
	default:
		for range s.r.Intn(9) {
			s.Deliver(s.r.Intn(4))
		}
	}
}

func (s *storm) loseOrReturn(client int) {
	if s.Return(client) == api.ErrUp {
		s.Lose(client)
	}
}

func (s *storm) failOrStart(acceptor int) {
	if s.Start(acceptor) == api.ErrUp {
		s.Fail(acceptor, s.r.Intn(12), s.r.Intn(30))
	}
}

// calm ends what is being done, and has all acceptors up, and none about to fail.
func (s *storm) calm() {
	for i := range s.acceptors() {
		s.Fail(i, 0, 0)
		s.Start(i)
	}
	for i := range s.c.Clients {
		for s.Busy(i) {
			drop(s.Mooring, anything)
			s.Tick(i)
		}
	}
	drop(s.Mooring, anything)
}
