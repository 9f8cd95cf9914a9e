package mooring_test

import (
	"math"
	"testing"

	"mooring/api"
	"mooring/mooring"
)

func TestStartRefuses(t *testing.T) {
	x := moored(t, usual)
	stores(t, x, 0, 0, api.OK)
	ahead := look(x)
	for _, i := range []int{math.MinInt, -1, 3, 4, 5, 1 << 32, math.MaxInt} {
		answers(t, "Start of nobody", x.Start(i), api.ErrArg)
	}
	for i := range 3 {
		answers(t, "Start of one that is up", x.Start(i), api.ErrUp)
	}
	if !look(x).is(ahead) {
		t.Errorf("a Start that was refused has changed something")
	}
	fails(t, x, 0, 1, 0)
	answers(t, "Start of one that is about to fail", x.Start(0), api.ErrUp)
	stores(t, x, 1, 0, api.ErrPower)
	starts(t, x, 0)
	answers(t, "Start of one that is up again", x.Start(0), api.ErrUp)
}

func TestStartReplaysTheLog(t *testing.T) {
	x := moored(t, with(func(c *api.Config) { c.Compact = 3 }))
	does(t, x, 0, api.Acquire, 2, 9)
	v := value(0, 256, 9, 1)
	begins(t, x, 1, api.Query, 0, 0)
	deliver(x, of(api.Prepare))
	drop(x, anything)
	from := happened(x)
	fails(t, x, 1, 0, 0)
	starts(t, x, 1)
	traceIs(t, x, from, goesDown(1), comesUp(1))
	// A log that is whole, and not too long, stays as it is.
	tableIs(t, x, 1, promised(0, 1), accepted(2, 256, v))
	logIs(t, x, 1, promised(2, 0), accepted(2, 256, v), promised(0, 1))
	// It answers by what it has.
	begins(t, x, 2, api.Query, 2, 0)
	deliver(x, of(api.Prepare, 1))
	drop(x, of(api.Prepare))
	netIs(t, x, sentBy(reply(api.Promise, 2, 2, 258, 256, v), 1))
	drop(x, anything)
	begins(t, x, 0, api.Query, 0, 0)
	delivers(t, x, of(api.Prepare, 1), api.OK)
	// That was compacted in between, as it has always been.
	logIs(t, x, 1, promised(0, 1), api.Row{Lock: 2, Promised: 258, Accepted: 256, Value: v}, api.Row{Lock: 0, Promised: 512})
}

func TestStartOfAnEmptyLog(t *testing.T) {
	x := moored(t, usual)
	fails(t, x, 2, 0, 0)
	starts(t, x, 2)
	traceIs(t, x, 0, goesDown(2), comesUp(2))
	tableIs(t, x, 2)
	logIs(t, x, 2)
	does(t, x, 0, api.Acquire, 0, 9)
	tableIs(t, x, 2, accepted(0, 256, value(0, 256, 9, 1)))
}

// TestATornLogIsCompacted: with some bytes of its last record, or all.
func TestATornLogIsCompacted(t *testing.T) {
	old := []api.Row{promised(3, 0), promised(3, 1), promised(1, 2)}
	for keep := range 27 {
		for n := range 4 {
			x := moored(t, with(func(c *api.Config) { c.Clients = 4 }))
			fails(t, x, 0, 2*n+1, keep)
			for i, r := range old[:n] {
				stores(t, x, i, r.Lock, api.OK)
			}
			stores(t, x, 3, 0, api.ErrPower)
			starts(t, x, 0)
			table := [][]api.Row{nil, {promised(3, 0)}, {promised(3, 1)}, {promised(1, 2), promised(3, 1)}}[n]
			left := table
			switch {
			case keep == 0:
				left = old[:n:n]
			case keep >= 25:
				left = append(old[:n:n], promised(0, 3))
				table = append([]api.Row{promised(0, 3)}, table...)
			}
			tableIs(t, x, 0, table...)
			logIs(t, x, 0, left...)
			// What it stores now stands behind that, and is read again.
			passes(t, x, 3, 5)
			deliver(x, of(api.Prepare, 0))
			fails(t, x, 0, 0, 0)
			starts(t, x, 0)
			logIs(t, x, 0, append(left, api.Row{Lock: 0, Promised: 512 + 3})...)
		}
	}
}

// TestALogThatIsTooLongIsCompacted: one of Compact records is not.
func TestALogThatIsTooLongIsCompacted(t *testing.T) {
	for most := 2; most <= 3; most++ {
		x := moored(t, with(func(c *api.Config) { c.Clients, c.Compact = 4, most }))
		fails(t, x, 0, 5, 25)
		stores(t, x, 2, 1, api.OK)
		stores(t, x, 0, 0, api.OK)
		stores(t, x, 1, 0, api.ErrPower)
		logIs(t, x, 0, promised(1, 2), promised(0, 0), promised(0, 1))
		starts(t, x, 0)
		tableIs(t, x, 0, promised(0, 1), promised(1, 2))
		if most == 2 {
			logIs(t, x, 0, promised(0, 1), promised(1, 2))
		} else {
			logIs(t, x, 0, promised(1, 2), promised(0, 0), promised(0, 1))
		}
	}
}

// TestACompactionOfAStartIsSynced: power that fails behind it finds the new log.
func TestACompactionOfAStartIsSynced(t *testing.T) {
	x := moored(t, usual)
	fails(t, x, 0, 5, 10)
	stores(t, x, 0, 1, api.OK)
	stores(t, x, 1, 1, api.OK)
	stores(t, x, 2, 0, api.ErrPower)
	for range 3 {
		starts(t, x, 0)
		tableIs(t, x, 0, promised(1, 1))
		logIs(t, x, 0, promised(1, 1))
		fails(t, x, 0, 0, 0)
		logIs(t, x, 0, promised(1, 1))
	}
}

// roomRows is what a log of 100 bytes has when it is full.
var roomRows = []api.Row{{Promised: 259}, {Promised: 515}, {Promised: 771}, {Promised: 1027}}

// outOfRoom has acceptor 0 store four rows, all that its disk has room for, and
// fall silent at a fifth.
func outOfRoom(t *testing.T) *mooring.Mooring {
	t.Helper()
	x := moored(t, with(func(c *api.Config) { c.Clients, c.Room = 4, 100 }))
	stores(t, x, 3, 0, api.OK)
	for range 3 {
		asksAgain(t, x, 3)
		delivers(t, x, of(api.Prepare, 0), api.OK)
	}
	asks(t, x, 2, 1)
	from := happened(x)
	delivers(t, x, of(api.Prepare, 0), api.OK)
	traceIs(t, x, from)
	return x
}

// asksAgain has another attempt of a client ask acceptor 0, and no other.
func asksAgain(t *testing.T, x *mooring.Mooring, client int) {
	t.Helper()
	passes(t, x, client, usual.Patience)
	drop(x, of(api.Prepare, 1, 2))
}

func TestStartOfASilentOne(t *testing.T) {
	x := outOfRoom(t)
	// While it is silent it answers not even what needs no room.
	asks(t, x, 1, 0)
	from := happened(x)
	delivers(t, x, of(api.Prepare, 0), api.OK)
	traceIs(t, x, from)
	starts(t, x, 0)
	traceIs(t, x, from, goesDown(0), comesUp(0))
	answers(t, "Start of one that is silent no more", x.Start(0), api.ErrUp)
	tableIs(t, x, 0, roomRows[3])
	logIs(t, x, 0, roomRows...)
	asks(t, x, 0, 0)
	from = happened(x)
	delivers(t, x, of(api.Prepare, 0), api.OK)
	traceIs(t, x, from, sent(reply(api.Nack, 0, 0, 256, 1027, api.Value{}))[0])
	// What does not fit makes it silent again.
	asksAgain(t, x, 2)
	from = happened(x)
	delivers(t, x, of(api.Prepare, 0), api.OK)
	traceIs(t, x, from)
	starts(t, x, 0)
	traceIs(t, x, from, goesDown(0), comesUp(0))
	logIs(t, x, 0, roomRows...)
}

func TestASilentOneFailsAtOnce(t *testing.T) {
	x := outOfRoom(t)
	from := happened(x)
	fails(t, x, 0, 0, 99)
	traceIs(t, x, from, goesDown(0))
	isDown(t, x, 0)
	answers(t, "Fail of one that is down", x.Fail(0, 0, 0), api.ErrDown)
	// It is down already, and does not go down once more.
	starts(t, x, 0)
	traceIs(t, x, from, goesDown(0), comesUp(0))
	tableIs(t, x, 0, roomRows[3])
}

func TestASilentOneTakesNoStep(t *testing.T) {
	x := outOfRoom(t)
	fails(t, x, 0, 1, 0)
	asks(t, x, 1, 3)
	from := happened(x)
	for range 3 {
		delivers(t, x, of(api.Prepare, 0), api.OK)
		asksAgain(t, x, 1)
	}
	if rows, e := x.Table(0); e != api.OK || len(rows) != 1 {
		t.Errorf("Table(0) of a silent one = %+v, %d", rows, e)
	}
	for _, e := range x.Trace(from) {
		if e.Kind == api.Down {
			t.Errorf("power has failed at one that is silent")
		}
	}
}

// TestNoFailIsLeftBehindTheCrashOfASilentOne: it falls silent while its log is
// compacted, and is compacting as soon as it is started.
func TestNoFailIsLeftBehindTheCrashOfASilentOne(t *testing.T) {
	for more := range 3 {
		x := moored(t, with(func(c *api.Config) { c.Compact, c.Room = 2, 100 }))
		rows := []api.Row{promised(0, 0), promised(1, 1), promised(2, 2)}
		fails(t, x, 0, 8+more, 0)
		for i := range rows {
			stores(t, x, i, i, api.OK)
		}
		for range 3 {
			from := happened(x)
			starts(t, x, 0)
			traceIs(t, x, from, goesDown(0), comesUp(0))
			tableIs(t, x, 0, rows...)
			logIs(t, x, 0, rows...)
			passes(t, x, 0, 5)
			drop(x, of(api.Prepare, 1, 2))
			from = happened(x)
			delivers(t, x, of(api.Prepare, 0), api.OK)
			traceIs(t, x, from)
		}
	}
}

// TestACompactionOfAStartThatDoesNotFit: the torn log and its table are one byte
// above the room, or have just enough.
func TestACompactionOfAStartThatDoesNotFit(t *testing.T) {
	rows := []api.Row{promised(0, 0), promised(1, 1)}
	for keep := 1; keep < 25; keep++ {
		for room := 100; room <= 125; room++ {
			x := moored(t, with(func(c *api.Config) { c.Room = room }))
			fails(t, x, 0, 5, keep)
			stores(t, x, 0, 0, api.OK)
			stores(t, x, 1, 1, api.OK)
			stores(t, x, 2, 2, api.ErrPower)
			from := happened(x)
			starts(t, x, 0)
			traceIs(t, x, from, comesUp(0))
			tableIs(t, x, 0, rows...)
			if 100+keep <= room {
				logIs(t, x, 0, rows...)
				answers(t, "Start of one that is not silent", x.Start(0), api.ErrUp)
				continue
			}
			torn := records(rows...) + records(promised(2, 2))[:keep]
			logIsText(t, x, 0, torn)
			passes(t, x, 2, 5)
			from = happened(x)
			delivers(t, x, of(api.Prepare, 0), api.OK)
			starts(t, x, 0)
			traceIs(t, x, from, goesDown(0), comesUp(0))
			tableIs(t, x, 0, rows...)
			logIsText(t, x, 0, torn)
		}
	}
}
