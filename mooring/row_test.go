package mooring_test

import (
	"slices"
	"testing"

	"mooring/api"
	"mooring/mooring"
)

// deed is an operation as the trace tells it.
type deed struct {
	client       int
	op           api.Op
	began, ended int
	end          api.Event
	// changes are the ballots in the row under which it has changed the value.
	changes []int
}

// proposal is what was sent to be accepted with a ballot, and where in the trace.
type proposal struct {
	by         *deed
	at         int
	lock, base int
	value      api.Value
}

// news is what a client, in one of its incarnations, was told of a lock.
type news struct{ incarnation, lock, owner, token int }

// history is what has been proposed and accepted of all locks.
type history struct {
	x         *mooring.Mooring
	quorum    int
	deeds     []*deed
	proposals map[int]*proposal
	accepted  map[int]map[int]bool
	told      map[news]int
}

func newHistory(x *mooring.Mooring, quorum int) *history {
	return &history{
		x:         x,
		quorum:    quorum,
		proposals: map[int]*proposal{},
		accepted:  map[int]map[int]bool{},
		told:      map[news]int{},
	}
}

// lookAtLogs notes what acceptors have accepted by now: their messages do not tell
// of what was stored as power failed.
func (h *history) lookAtLogs(acceptors int) {
	for i := range acceptors {
		s, _ := h.x.Log(i)
		rows, _ := mooring.Replay(s)
		for _, r := range rows {
			h.accepts(r.Accepted, i)
		}
	}
}

func (h *history) accepts(ballot, acceptor int) {
	if h.accepted[ballot] == nil {
		h.accepted[ballot] = map[int]bool{}
	}
	h.accepted[ballot][acceptor] = true
}

// readTrace finds out who has done what.
func (h *history) readTrace(t *testing.T) {
	t.Helper()
	doing := map[int]*deed{}
	for i, e := range h.x.Trace(0) {
		switch e.Kind {
		case api.Began:
			doing[e.Node] = &deed{client: e.Node, op: e.Op, began: i, ended: -1}
			h.deeds = append(h.deeds, doing[e.Node])
		case api.Ended:
			d := doing[e.Node]
			d.ended, d.end = i, e
			delete(doing, e.Node)
			n := news{e.Ballot % 256, e.Op.Lock, e.Owner, e.Token}
			if h.told[n] == 0 {
				h.told[n] = i
			}
		case api.Down:
			delete(doing, -1-e.Node)
		case api.Sent:
			switch m := e.Message; m.Kind {
			case api.Accepted:
				h.accepts(m.Ballot, m.From)
			case api.Accept:
				h.proposed(t, m, proposal{doing[m.From], i, m.Lock, m.Base, m.Value})
			}
		}
	}
}

func (h *history) proposed(t *testing.T, m api.Message, p proposal) {
	t.Helper()
	if p.by == nil || p.by.op.Lock != m.Lock {
		t.Errorf("%+v was sent by one that does nothing of the kind", m)
		return
	}
	first, ok := h.proposals[m.Ballot]
	if !ok {
		first = &p
		h.proposals[m.Ballot] = first
	}
	if p.at = first.at; p != *first {
		t.Errorf("the ballot %d is of %+v and of %+v", m.Ballot, *first, p)
	}
}

// row tells the ballots of a lock, base by base, the first one first, from the
// greatest that a quorum has accepted.
func (h *history) row(t *testing.T, lock int) []int {
	t.Helper()
	var chosen, row []int
	for ballot, by := range h.accepted {
		if p := h.proposals[ballot]; p != nil && p.lock == lock && len(by) >= h.quorum {
			chosen = append(chosen, ballot)
		}
	}
	if len(chosen) == 0 {
		return nil
	}
	for b := slices.Max(chosen); b != 0; b = h.proposals[b].base {
		if p := h.proposals[b]; p == nil || p.lock != lock || p.base >= b {
			t.Fatalf("lock %d: the ballot %d is of %+v", lock, b, p)
		}
		row = append(row, b)
	}
	slices.Reverse(row)
	for _, b := range chosen {
		if !slices.Contains(row, b) {
			t.Fatalf("lock %d: a quorum has accepted %d, which is not in the row %v", lock, b, row)
		}
	}
	return row
}

// check tells whether all answers of a lock fit into its row.
func (h *history) check(t *testing.T, lock int) {
	t.Helper()
	row := h.row(t, lock)
	h.walk(t, row)
	var answered []*deed
	for _, d := range h.deeds {
		if d.op.Lock != lock {
			continue
		}
		d.checkChanges(t)
		if !d.isAnswered() {
			continue
		}
		answered = append(answered, d)
		if !slices.Contains(row, d.end.Ballot) || h.proposals[d.end.Ballot].by != d {
			t.Errorf("%+v does not stand in the row %v", *d, row)
		} else if v := h.proposals[d.end.Ballot].value; !d.wasTold(v) {
			t.Errorf("%+v stands in the row with %+v", *d, v)
		}
	}
	for _, d := range answered {
		for _, earlier := range answered {
			if earlier.ended < d.began && earlier.end.Ballot >= d.end.Ballot {
				t.Errorf("%+v has ended ahead of %+v", *earlier, *d)
			}
		}
	}
}

// walk tells whether each value of the row may follow the one ahead of it.
func (h *history) walk(t *testing.T, row []int) {
	t.Helper()
	ahead := api.Value{}
	for _, b := range row {
		p := h.proposals[b]
		if p.value != ahead {
			p.by.changes = append(p.by.changes, b)
			if !h.mayFollow(p, ahead, b) || p.value.Token < ahead.Token {
				t.Errorf("the ballot %d has %+v behind %+v, by %+v", b, p.value, ahead, *p.by)
			}
		}
		ahead = p.value
	}
}

// mayFollow tells whether what was proposed with a ballot may follow v, which is
// another value.
func (h *history) mayFollow(p *proposal, v api.Value, ballot int) bool {
	me := p.by.client + 1
	switch p.by.op.Kind {
	case api.Acquire:
		told := h.told[news{ballot % 256, p.lock, v.Owner, v.Token}]
		free := v.Owner == 0 || v.Owner == me || told > 0 && told < p.at
		return free && p.value == api.Value{Owner: me, Token: ballot, Ttl: p.by.op.Ttl, Seq: 1}
	case api.Renew:
		return v.Owner == me && p.value == api.Value{Owner: me, Token: v.Token, Ttl: p.by.op.Ttl, Seq: v.Seq + 1}
	case api.Release:
		return v.Owner == me && p.value == api.Value{Token: v.Token, Seq: ballot}
	}
	return false
}

func (d *deed) isAnswered() bool {
	return d.ended >= 0 && d.end.Result >= api.Granted && d.end.Result <= api.Told
}

func (d *deed) checkChanges(t *testing.T) {
	t.Helper()
	least, most := 0, 1
	switch {
	case d.op.Kind == api.Query:
		most = 0
	case d.op.Kind == api.Renew:
		most = len(d.changes)
		if d.end.Result == api.Granted {
			least = 1
		}
	case d.end.Result == api.Granted:
		least = 1
	case d.isAnswered():
		most = 0
	}
	if n := len(d.changes); n < least || n > most {
		t.Errorf("%+v has changed the value %d times", *d, n)
	}
	if d.op.Kind == api.Acquire && d.end.Result == api.Granted && !slices.Contains(d.changes, d.end.Token) {
		t.Errorf("%+v was granted another token than that which it made", *d)
	}
}

// wasTold tells whether the operation was told this value.
func (d *deed) wasTold(v api.Value) bool {
	me := d.client + 1
	switch d.end.Result {
	case api.Granted:
		owner := me
		if d.op.Kind == api.Release {
			owner = 0
		}
		return v.Owner == owner && v.Token == d.end.Token && d.end.Owner == me
	case api.Held:
		return v.Owner == d.end.Owner && v.Token == d.end.Token && v.Owner != me && v.Owner != 0
	case api.Told:
		return v.Owner == d.end.Owner && v.Token == d.end.Token
	}
	return true
}

// TestAllAnswersFitIntoOneRow: whatever happens.
func TestAllAnswersFitIntoOneRow(t *testing.T) {
	results, unheard := [7]int{}, 0
	storms(t, 300, func(s *storm) {
		h := newHistory(s.Mooring, s.c.F+1)
		for range 1000 {
			s.strike()
			h.lookAtLogs(s.acceptors())
		}
		h.readTrace(t)
		for lock := range s.locks {
			h.check(t, lock)
		}
		for _, d := range h.deeds {
			results[d.end.Result]++
			if !d.isAnswered() && len(d.changes) > 0 {
				unheard++
			}
		}
	})
	for _, result := range []int{api.Granted, api.Held, api.NotOwner, api.Told, api.Unknown} {
		if results[result] < 300 {
			t.Errorf("only %d operations ended with %d", results[result], result)
		}
	}
	if unheard < 100 {
		t.Errorf("only %d values were changed by what was not answered", unheard)
	}
}
