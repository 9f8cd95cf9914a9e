package mooring_test

import (
	"slices"
	"testing"

	"mooring/api"
	"mooring/mooring"
)

// told is what an acceptor has told of a lock by its messages.
type told struct{ promised, accepted int }

// witness holds acceptors against what they have told.
type witness struct {
	x      *mooring.Mooring
	seen   int
	told   map[[2]int]told
	values map[int]api.Value
}

func newWitness(x *mooring.Mooring) *witness {
	return &witness{x: x, told: map[[2]int]told{}, values: map[int]api.Value{}}
}

func (w *witness) listen() {
	for _, e := range w.x.Trace(w.seen) {
		w.seen++
		m := e.Message
		at := [2]int{m.From, m.Lock}
		was := w.told[at]
		switch m.Kind {
		case api.Promise:
			w.told[at] = told{max(was.promised, m.Ballot), max(was.accepted, m.Base)}
		case api.Accepted:
			w.told[at] = told{max(was.promised, m.Ballot), max(was.accepted, m.Ballot)}
		case api.Accept:
			w.values[m.Ballot] = m.Value
		}
	}
}

// check tells whether those of so many acceptors that are up have what they told.
func (w *witness) check(t *testing.T, acceptors int) {
	t.Helper()
	w.listen()
	for i := range acceptors {
		rows, e := w.x.Table(i)
		if e != api.OK {
			continue
		}
		s, _ := w.x.Log(i)
		if again, _ := mooring.Replay(s); !slices.Equal(rows, again) {
			t.Errorf("Table(%d) = %+v, its log is that of %+v", i, rows, again)
		}
		has := [api.MaxLocks]api.Row{}
		for _, r := range rows {
			has[r.Lock] = r
			if r.Value != w.values[r.Accepted] {
				t.Errorf("acceptor %d has accepted %+v, that ballot is of %+v", i, r, w.values[r.Accepted])
			}
		}
		for lock, r := range has {
			if was := w.told[[2]int{i, lock}]; r.Promised < was.promised || r.Accepted < was.accepted {
				t.Errorf("acceptor %d has %+v, but has told %+v", i, r, was)
			}
		}
	}
}

// TestAcceptorsHaveWhatTheyTold: whatever happens.
func TestAcceptorsHaveWhatTheyTold(t *testing.T) {
	crashes, silences := 0, 0
	storms(t, 150, func(s *storm) {
		if s.r.Intn(3) == 0 {
			// Room for so little that they fall silent.
			s.c.Room = 100 + s.r.Intn(200)
			s.Mooring = moored(t, s.c)
		}
		w := newWitness(s.Mooring)
		for range 400 {
			s.strike()
			w.check(t, s.acceptors())
			if t.Failed() {
				return
			}
		}
		all := s.Trace(0)
		for i, e := range all {
			if e.Kind == api.Down && e.Node >= 0 {
				crashes++
				if i+1 < len(all) && all[i+1] == comesUp(e.Node) {
					silences++
				}
			}
		}
	})
	if crashes < 1000 || silences < 100 {
		t.Errorf("only %d crashes, %d of one that was silent", crashes, silences)
	}
}

// TestEveryStepMayFail: of all that an acceptor does in three operations, with
// every part of what is not synced.
func TestEveryStepMayFail(t *testing.T) {
	for _, most := range []int{2, 3, 16} {
		for steps := range 40 {
			for keep := range 27 {
				x := moored(t, with(func(c *api.Config) { c.Compact = most }))
				w := newWitness(x)
				fails(t, x, 1, steps, keep)
				for round := range 3 {
					does(t, x, 0, api.Acquire, 1, 9+round)
					does(t, x, 0, api.Query, 2, 0)
				}
				x.Start(1)
				w.check(t, 3)
				does(t, x, 1, api.Query, 1, 0)
				endIs(t, x, 1, api.Told, 1, 5*256, 6*256+1)
				w.check(t, 3)
				if t.Failed() {
					t.Fatalf("Compact %d, steps %d, keep %d", most, steps, keep)
				}
			}
		}
	}
}
