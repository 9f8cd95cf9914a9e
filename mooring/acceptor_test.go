package mooring_test

import (
	"testing"

	"mooring/api"
	"mooring/mooring"
)

// reply is what acceptor 0 sends to a client.
func reply(kind, client, lock, ballot, base int, v api.Value) api.Message {
	return api.Message{Kind: kind, To: client, Lock: lock, Ballot: ballot, Base: base, Value: v}
}

func TestPromises(t *testing.T) {
	x := moored(t, usual)
	begins(t, x, 1, api.Acquire, 3, 9)
	double(x, of(api.Prepare, 0))
	deliver(x, of(api.Prepare, 0))
	drop(x, of(api.Prepare))
	// A ballot that was promised already is promised again, and nothing is stored.
	first := reply(api.Promise, 1, 3, 257, 0, api.Value{})
	netIs(t, x, first, first)
	logIs(t, x, 0, api.Row{Lock: 3, Promised: 257})
	begins(t, x, 2, api.Acquire, 3, 9)
	deliver(x, of(api.Prepare, 0))
	drop(x, of(api.Prepare))
	netIs(t, x, first, first, reply(api.Promise, 2, 3, 258, 0, api.Value{}))
	logIs(t, x, 0, api.Row{Lock: 3, Promised: 257}, api.Row{Lock: 3, Promised: 258})
	tableIs(t, x, 0, api.Row{Lock: 3, Promised: 258})
	begins(t, x, 0, api.Acquire, 3, 9)
	drop(x, of(api.Promise))
	deliver(x, of(api.Prepare, 0))
	drop(x, of(api.Prepare))
	netIs(t, x, reply(api.Nack, 0, 3, 256, 258, api.Value{}))
	logIs(t, x, 0, api.Row{Lock: 3, Promised: 257}, api.Row{Lock: 3, Promised: 258})
}

func TestPromisesTellWhatWasAccepted(t *testing.T) {
	x := moored(t, usual)
	v := value(0, 256, 9, 1)
	does(t, x, 0, api.Acquire, 0, 9)
	begins(t, x, 1, api.Query, 0, 0)
	deliver(x, of(api.Prepare, 0))
	drop(x, of(api.Prepare))
	netIs(t, x, reply(api.Promise, 1, 0, 257, 256, v))
	tableIs(t, x, 0, api.Row{Promised: 257, Accepted: 256, Value: v})
	logIs(t, x, 0, api.Row{Promised: 256}, accepted(0, 256, v), api.Row{Promised: 257, Accepted: 256, Value: v})
}

// rival makes acceptor 0 promise a ballot of client 1 ahead of an Accept of
// client 0, or not.
func rival(t *testing.T, promised bool) *mooring.Mooring {
	t.Helper()
	x := moored(t, usual)
	begins(t, x, 0, api.Acquire, 0, 9)
	propose(x)
	if promised {
		begins(t, x, 1, api.Query, 0, 0)
		deliver(x, of(api.Prepare, 0))
		drop(x, of(api.Prepare))
		drop(x, of(api.Promise))
	}
	deliver(x, of(api.Accept, 0))
	drop(x, of(api.Accept))
	return x
}

func TestAccepts(t *testing.T) {
	v := value(0, 256, 9, 1)
	x := rival(t, false)
	netIs(t, x, reply(api.Accepted, 0, 0, 256, 0, api.Value{}))
	tableIs(t, x, 0, accepted(0, 256, v))
	logIs(t, x, 0, api.Row{Promised: 256}, accepted(0, 256, v))
	tableIs(t, x, 1, api.Row{Promised: 256})
	x = rival(t, true)
	netIs(t, x, reply(api.Nack, 0, 0, 256, 257, api.Value{}))
	tableIs(t, x, 0, api.Row{Promised: 257})
	logIs(t, x, 0, api.Row{Promised: 256}, api.Row{Promised: 257})
}

func TestAnAcceptedTellsNoBase(t *testing.T) {
	x := moored(t, usual)
	does(t, x, 0, api.Acquire, 0, 9)
	begins(t, x, 0, api.Renew, 0, 9)
	propose(x)
	deliver(x, of(api.Accept, 0))
	drop(x, of(api.Accept))
	netIs(t, x, reply(api.Accepted, 0, 0, 512, 0, api.Value{}))
}

func TestAnAcceptMayComeToOneThatHasNotPromised(t *testing.T) {
	x := moored(t, usual)
	v := value(0, 256, 9, 1)
	begins(t, x, 0, api.Acquire, 2, 9)
	deliver(x, of(api.Prepare, 1, 2))
	deliver(x, of(api.Promise))
	deliver(x, of(api.Accept, 0))
	tableIs(t, x, 0, accepted(2, 256, v))
	// The Prepare comes behind: the ballot is promised, and the answer tells so.
	drop(x, of(api.Accept))
	drop(x, of(api.Accepted))
	deliver(x, of(api.Prepare, 0))
	netIs(t, x, reply(api.Promise, 0, 2, 256, 256, v))
	logIs(t, x, 0, accepted(2, 256, v))
}

func TestLocksAreRegistersOfTheirOwn(t *testing.T) {
	x := moored(t, usual)
	does(t, x, 0, api.Acquire, 3, 9)
	does(t, x, 0, api.Acquire, 1, 9)
	does(t, x, 1, api.Acquire, 0, 9)
	endIs(t, x, 1, api.Granted, 2, 257, 257)
	for i := range 3 {
		tableIs(t, x, i,
			accepted(0, 257, value(1, 257, 9, 1)),
			accepted(1, 512, value(0, 512, 9, 1)),
			accepted(3, 256, value(0, 256, 9, 1)))
	}
	holdIs(t, x, 0, 3, true)
	holdIs(t, x, 0, 1, true)
	holdIs(t, x, 1, 0, true)
	holdIs(t, x, 0, 0, false)
	holdIs(t, x, 1, 1, false)
}

func TestLogsAreCompactedAboveCompact(t *testing.T) {
	for _, most := range []int{2, 3, 16} {
		x := moored(t, with(func(c *api.Config) { c.Clients, c.Compact = 1, most }))
		records := 0
		for round := 1; round <= 20; round++ {
			begins(t, x, 0, api.Query, 0, 0)
			for _, kind := range []int{api.Prepare, api.Promise, api.Accept, api.Accepted} {
				deliver(x, of(kind))
				if kind == api.Promise || kind == api.Accepted {
					continue
				}
				if records++; records > most {
					records = 1
				}
				if s, e := x.Log(1); e != api.OK || len(s) != 25*records {
					t.Fatalf("Compact %d, round %d: Log(1) has %d bytes, want %d records", most, round, len(s), records)
				}
			}
		}
		tableIs(t, x, 1, accepted(0, 20*256, api.Value{}))
	}
}

func TestACompactedLogHasTheTableInOrder(t *testing.T) {
	x := moored(t, with(func(c *api.Config) { c.Compact = 2 }))
	for _, lock := range []int{2, 0, 3} {
		begins(t, x, 0, api.Query, lock, 0)
		deliver(x, of(api.Prepare, 0))
		drop(x, anything)
		passes(t, x, 0, 20)
		drop(x, anything)
	}
	rows := []api.Row{{Lock: 0, Promised: 5 * 256}, {Lock: 2, Promised: 256}, {Lock: 3, Promised: 9 * 256}}
	tableIs(t, x, 0, rows...)
	logIs(t, x, 0, rows...)
	// It has more than two records still: each that is stored has it compacted.
	begins(t, x, 0, api.Query, 1, 0)
	deliver(x, of(api.Prepare, 0))
	rows = []api.Row{rows[0], {Lock: 1, Promised: 13 * 256}, rows[1], rows[2]}
	logIs(t, x, 0, rows...)
	deliver(x, of(api.Prepare, 1, 2))
	deliver(x, of(api.Promise, 1, 2))
	deliver(x, of(api.Accept, 0))
	rows[1].Accepted = 13 * 256
	logIs(t, x, 0, rows...)
}

func TestWhatStoresNothingCompactsNothing(t *testing.T) {
	x := moored(t, with(func(c *api.Config) { c.Compact = 2 }))
	for _, lock := range []int{2, 0, 1} {
		does(t, x, 0, api.Query, lock, 0)
	}
	begins(t, x, 0, api.Query, 1, 0)
	double(x, of(api.Prepare, 0))
	answers(t, "Deliver", x.Deliver(0), api.OK)
	ahead, _ := x.Log(0)
	deliver(x, of(api.Prepare, 0))
	begins(t, x, 1, api.Query, 1, 0)
	deliver(x, of(api.Prepare, 0))
	if behind, _ := x.Log(0); behind != ahead {
		t.Errorf("a Prepare that was promised already, or refused, has changed the log to %q", behind)
	}
}

// TestRoomForOneMore: four records fit into 100 bytes, a fifth does not.
func TestRoomForOneMore(t *testing.T) {
	x := moored(t, with(func(c *api.Config) { c.Room = 100 }))
	for range 2 {
		does(t, x, 0, api.Query, 0, 0)
	}
	endIs(t, x, 0, api.Told, 0, 0, 512)
	begins(t, x, 0, api.Query, 0, 0)
	from := happened(x)
	for range 3 {
		answers(t, "Deliver of what does not fit", x.Deliver(0), api.OK)
	}
	netIs(t, x)
	traceIs(t, x, from)
	for i := range 3 {
		tableIs(t, x, i, accepted(0, 512, api.Value{}))
		logIs(t, x, i, api.Row{Promised: 256}, accepted(0, 256, api.Value{}),
			api.Row{Promised: 512, Accepted: 256}, accepted(0, 512, api.Value{}))
	}
}

func TestASilentAcceptorDoesNothing(t *testing.T) {
	x := moored(t, with(func(c *api.Config) { c.Room = 100 }))
	begins(t, x, 1, api.Query, 0, 0)
	for _, ballot := range []int{257, 513, 769, 1025} {
		deliver(x, of(api.Prepare, 1))
		drop(x, anything)
		tableIs(t, x, 1, api.Row{Promised: ballot})
		passes(t, x, 1, 5)
	}
	endIs(t, x, 1, api.Unknown, 0, 0, 1025)
	begins(t, x, 1, api.Acquire, 0, 9)
	// This is the fifth record of acceptor 1, and it alone falls silent.
	deliver(x, of(api.Prepare, 1))
	if n := len(x.Net()); n != 2 {
		t.Fatalf("%d messages, want two Prepares", n)
	}
	settle(x)
	endIs(t, x, 1, api.Granted, 2, 1281, 1281)
	tableIs(t, x, 1, api.Row{Promised: 1025})
	// A Prepare that would be refused, for which nothing is stored, is not answered.
	begins(t, x, 0, api.Query, 0, 0)
	from := happened(x)
	deliver(x, of(api.Prepare, 1))
	traceIs(t, x, from)
	settle(x)
	endIs(t, x, 0, api.Told, 2, 1281, 1536)
}

// TestACompactionThatDoesNotFit: the answer was sent ahead of it.
func TestACompactionThatDoesNotFit(t *testing.T) {
	x := moored(t, with(func(c *api.Config) { c.Compact, c.Room = 2, 100 }))
	does(t, x, 0, api.Query, 0, 0)
	begins(t, x, 0, api.Query, 1, 0)
	deliver(x, of(api.Prepare))
	row := accepted(0, 256, api.Value{})
	for i := range 3 {
		logIs(t, x, i, api.Row{Promised: 256}, row, api.Row{Lock: 1, Promised: 512})
		tableIs(t, x, i, row, api.Row{Lock: 1, Promised: 512})
	}
	promise := api.Message{Kind: api.Promise, Lock: 1, Ballot: 512}
	netIs(t, x, promise, sentBy(promise, 1), sentBy(promise, 2))
	deliver(x, of(api.Promise))
	from := happened(x)
	deliver(x, of(api.Accept))
	netIs(t, x)
	traceIs(t, x, from)
	tableIs(t, x, 2, row, api.Row{Lock: 1, Promised: 512})
}

// TestACompactionThatJustFits: three records and one more are 100 bytes.
func TestACompactionThatJustFits(t *testing.T) {
	x := moored(t, with(func(c *api.Config) { c.Clients, c.Compact, c.Room = 1, 2, 100 }))
	for range 30 {
		does(t, x, 0, api.Query, 0, 0)
	}
	endIs(t, x, 0, api.Told, 0, 0, 30*256)
}

func sentBy(m api.Message, acceptor int) api.Message {
	m.From = acceptor
	return m
}
