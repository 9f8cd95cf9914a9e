package mooring_test

import (
	"testing"

	"mooring/api"
)

// oneEnds tells whether, of 2 F + 2 operations on a lock, one ends not Unknown.
func oneEnds(t *testing.T, s *storm, client, lock int) bool {
	t.Helper()
	for range s.acceptors() + 1 {
		does(t, s.Mooring, client, 1+s.r.Intn(4), lock, 1+s.r.Intn(9))
		all := endings(s.Mooring, client)
		if all[len(all)-1].Result != api.Unknown {
			return true
		}
	}
	return false
}

// TestOneOfAFewOperationsEnds: whatever has happened ahead of it.
func TestOneOfAFewOperationsEnds(t *testing.T) {
	storms(t, 300, func(s *storm) {
		for range 8 {
			for range s.r.Intn(80) {
				s.strike()
			}
			s.calm()
			client := s.r.Intn(s.c.Clients)
			s.Return(client)
			if lock := s.r.Intn(s.locks); s.Tick(client) == api.OK && !oneEnds(t, s, client, lock) {
				t.Errorf("all operations of client %d on lock %d end Unknown", client, lock)
			}
		}
	})
}

// TestTheLastOfAFewOperationsEnds: each acceptor has promised more than the one
// ahead of it, and each operation hears of one of them only.
func TestTheLastOfAFewOperationsEnds(t *testing.T) {
	for f := 1; f <= 2; f++ {
		for kind := api.Acquire; kind <= api.Query; kind++ {
			x := moored(t, with(func(c *api.Config) { c.F, c.Tries = f, 1 }))
			for i := range 2*f + 1 {
				for range 4 {
					begins(t, x, 1, api.Query, 0, 0)
					deliver(x, of(api.Prepare, i))
					drop(x, anything)
					passes(t, x, 1, 5)
				}
			}
			for i := range 2*f + 1 {
				does(t, x, 0, kind, 0, 9)
				endIs(t, x, 0, api.Unknown, 0, 0, 256*(1+4*i))
			}
			does(t, x, 0, kind, 0, 9)
			all := endings(x, 0)
			if e := all[len(all)-1]; e.Result == api.Unknown || e.Ballot != 256*(1+4*(2*f+1)) {
				t.Errorf("F %d: the last operation of kind %d ends %+v", f, kind, e)
			}
		}
	}
}

// TestRoomThatIsEnough: with 25 (Compact + 10) bytes nobody falls silent, whatever
// is left of a log.
func TestRoomThatIsEnough(t *testing.T) {
	for most := 2; most <= api.MaxCompact; most++ {
		for steps := range 9 {
			x := moored(t, with(func(c *api.Config) { c.Compact, c.Room = most, 25*(most+10) }))
			for n := range 60 {
				x.Fail(n%3, steps, n%27)
				begins(t, x, 0, api.Query, n%4, 0)
				for settle(x); x.Busy(0); settle(x) {
					passes(t, x, 0, 1)
				}
				for i := range 3 {
					x.Start(i)
				}
			}
			for i := range 3 {
				x.Fail(i, 0, 0)
				starts(t, x, i)
				answers(t, "Start of one that is not silent", x.Start(i), api.ErrUp)
			}
			for n := range 60 {
				does(t, x, 1, api.Acquire, n%4, 9)
				all := endings(x, 1)
				if e := all[len(all)-1]; e.Result == api.Unknown {
					t.Fatalf("Compact %d: the end is %+v", most, e)
				}
			}
		}
	}
}
