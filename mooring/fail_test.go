package mooring_test

import (
	"math"
	"testing"

	"mooring/api"
	"mooring/mooring"
)

// asks has a client's Prepare for a lock on its way to acceptor 0, and to no other.
func asks(t *testing.T, x *mooring.Mooring, client, lock int) {
	t.Helper()
	begins(t, x, client, api.Query, lock, 0)
	drop(x, of(api.Prepare, 1, 2))
}

func delivers(t *testing.T, x *mooring.Mooring, chosen choice, want api.Errno) {
	t.Helper()
	takeEach(x, chosen, func(i int) api.Errno {
		e := x.Deliver(i)
		answers(t, "Deliver", e, want)
		return e
	})
}

// stores has acceptor 0 store a promise to a client's first ballot.
func stores(t *testing.T, x *mooring.Mooring, client, lock int, want api.Errno) {
	t.Helper()
	asks(t, x, client, lock)
	delivers(t, x, of(api.Prepare, 0), want)
}

// promised is the row of a lock behind the promise to a client's first ballot.
func promised(lock, client int) api.Row { return api.Row{Lock: lock, Promised: 256 + client} }

var keeps = []int{0, 1, 10, 24, 25, 26, 1 << 32, math.MaxInt}

func TestFailRefuses(t *testing.T) {
	x := moored(t, usual)
	fails(t, x, 1, 0, 0)
	stores(t, x, 0, 0, api.OK)
	ahead := look(x)
	for _, c := range []struct {
		acceptor, steps, keep int
		want                  api.Errno
	}{
		{-1, 0, 0, api.ErrArg},
		{3, 0, 0, api.ErrArg},
		{4, 1, 1, api.ErrArg},
		{math.MinInt, 0, 0, api.ErrArg},
		{math.MaxInt, 0, 0, api.ErrArg},
		{1 << 32, 0, 0, api.ErrArg},
		{0, -1, 0, api.ErrArg},
		{0, 0, -1, api.ErrArg},
		{0, math.MinInt, 5, api.ErrArg},
		{0, 5, math.MinInt, api.ErrArg},
		{1, -1, 0, api.ErrArg},
		{1, 0, -1, api.ErrArg},
		{1, 0, 0, api.ErrDown},
		{1, 9, 0, api.ErrDown},
		{1, math.MaxInt, math.MaxInt, api.ErrDown},
	} {
		answers(t, "Fail", x.Fail(c.acceptor, c.steps, c.keep), c.want)
	}
	if !look(x).is(ahead) {
		t.Errorf("a Fail that was refused has changed something")
	}
	// None of them has left a failure, not even behind a start.
	starts(t, x, 1)
	does(t, x, 1, api.Acquire, 0, 9)
	does(t, x, 1, api.Acquire, 1, 9)
	for i := range 3 {
		if rows, e := x.Table(i); e != api.OK || len(rows) != 2 {
			t.Errorf("Table(%d) = %+v, %d", i, rows, e)
		}
	}
}

func TestARefusedFailLeavesTheOneThatThereWas(t *testing.T) {
	for _, c := range [][3]int{{0, -1, 0}, {0, 2, -1}, {-1, 9, 9}} {
		x := moored(t, usual)
		fails(t, x, 0, 1, 10)
		answers(t, "Fail", x.Fail(c[0], c[1], c[2]), api.ErrArg)
		stores(t, x, 0, 0, api.ErrPower)
		logIsText(t, x, 0, records(promised(0, 0))[:10])
	}
}

func TestFailAtOnce(t *testing.T) {
	for _, keep := range keeps {
		x := moored(t, usual)
		stores(t, x, 0, 3, api.OK)
		from := happened(x)
		fails(t, x, 0, 0, keep)
		traceIs(t, x, from, goesDown(0))
		isDown(t, x, 0)
		logIs(t, x, 0, promised(3, 0))
		answers(t, "Fail of one that is down", x.Fail(0, 0, keep), api.ErrDown)
		for i := 1; i < 3; i++ {
			tableIs(t, x, i)
		}
	}
}

func TestOneThatIsDownDoesNothing(t *testing.T) {
	x := moored(t, usual)
	begins(t, x, 0, api.Acquire, 1, 9)
	fails(t, x, 2, 0, 0)
	from := happened(x)
	delivers(t, x, of(api.Prepare, 2), api.OK)
	traceIs(t, x, from)
	netIs(t, x, prepares(0, 1, 256, 2)...)
	logIs(t, x, 2)
	isDown(t, x, 2)
	// Two of three are a quorum.
	settle(x)
	endIs(t, x, 0, api.Granted, 1, 256, 256)
	logIs(t, x, 2)
}

// TestPowerFailsInAStore: in place of the second append, and of either sync.
func TestPowerFailsInAStore(t *testing.T) {
	first, second := records(promised(2, 0)), records(promised(1, 1))
	for _, keep := range keeps {
		part := min(keep, 25)
		for _, c := range []struct {
			steps  int
			stored int
			left   string
		}{
			{1, 0, first[:part]},
			{2, 1, first},
			{3, 1, first + second[:part]},
		} {
			x := moored(t, usual)
			fails(t, x, 0, c.steps, keep)
			if c.stored > 0 {
				stores(t, x, 0, 2, api.OK)
			}
			from := happened(x)
			asks(t, x, c.stored, 2-c.stored)
			on := len(x.Net())
			delivers(t, x, of(api.Prepare, 0), api.ErrPower)
			all := x.Trace(from)
			if last := all[len(all)-1]; last != goesDown(0) || len(x.Net()) != on-1 {
				t.Errorf("steps %d: the last event is %+v, and %d of %d messages are on their way", c.steps, last, len(x.Net()), on)
			}
			isDown(t, x, 0)
			logIsText(t, x, 0, c.left)
			delivers(t, x, of(api.Promise), api.OK)
		}
	}
}

func TestWhatIsAcceptedInACrashMayStay(t *testing.T) {
	v := value(0, 256, 9, 1)
	row := api.Row{Lock: 0, Promised: 256}
	for _, keep := range []int{0, 24, 25, 99} {
		x := moored(t, usual)
		begins(t, x, 0, api.Acquire, 0, 9)
		propose(x)
		fails(t, x, 1, 1, keep)
		delivers(t, x, of(api.Accept, 1), api.ErrPower)
		starts(t, x, 1)
		if keep < 25 {
			tableIs(t, x, 1, row)
			logIs(t, x, 1, row)
			continue
		}
		tableIs(t, x, 1, accepted(0, 256, v))
		logIs(t, x, 1, row, accepted(0, 256, v))
		if n := len(x.Net()); n != 2 {
			t.Errorf("%d messages are on their way, want two Accepts", n)
		}
	}
}

func TestWhatStoresNothingTakesNoStep(t *testing.T) {
	x := moored(t, usual)
	stores(t, x, 1, 0, api.OK)
	fails(t, x, 0, 1, 0)
	// A ballot that is refused, twice.
	asks(t, x, 0, 0)
	double(x, of(api.Prepare, 0))
	delivers(t, x, of(api.Prepare, 0), api.OK)
	// And one that is promised already, behind the two steps of its promise.
	fails(t, x, 0, 3, 9)
	asks(t, x, 2, 1)
	double(x, of(api.Prepare, 0))
	double(x, of(api.Prepare, 0))
	delivers(t, x, of(api.Prepare, 0), api.OK)
	logIs(t, x, 0, promised(0, 1), promised(1, 2))
	deliver(x, of(api.Nack))
	drop(x, of(api.Prepare, 1, 2))
	delivers(t, x, of(api.Prepare, 0), api.ErrPower)
	logIsText(t, x, 0, records(promised(0, 1), promised(1, 2), api.Row{Lock: 0, Promised: 512})[:59])
}

// TestWhatStoresNothingCompactsNothingOfALongLog: three locks have more rows than
// two records, however often they are compacted.
func TestWhatStoresNothingCompactsNothingOfALongLog(t *testing.T) {
	x := moored(t, with(func(c *api.Config) { c.Compact = 2 }))
	stores(t, x, 1, 0, api.OK)
	stores(t, x, 2, 1, api.OK)
	asks(t, x, 0, 2)
	double(x, of(api.Prepare, 0))
	fails(t, x, 0, 7, 0)
	delivers(t, x, of(api.Prepare, 0), api.OK)
	answers(t, "Lose", x.Lose(0), api.OK)
	answers(t, "Return", x.Return(0), api.OK)
	asks(t, x, 0, 2)
	delivers(t, x, of(api.Prepare, 0), api.ErrPower)
}

// compacting has acceptor 0 store three rows of two locks, of which the third has
// its log compacted.
func compacting(t *testing.T, steps, keep int) *mooring.Mooring {
	t.Helper()
	x := moored(t, with(func(c *api.Config) { c.Compact = 2 }))
	fails(t, x, 0, steps, keep)
	stores(t, x, 0, 2, api.OK)
	stores(t, x, 1, 0, api.OK)
	asks(t, x, 2, 2)
	return x
}

func TestPowerFailsInACompaction(t *testing.T) {
	old := []api.Row{promised(2, 0), promised(0, 1), promised(2, 2)}
	for _, keep := range keeps {
		for step := range 5 {
			x := compacting(t, 6+step, keep)
			from := happened(x)
			delivers(t, x, of(api.Prepare, 0), api.ErrPower)
			// The answer was sent ahead of it.
			traceIs(t, x, from, sent(reply(api.Promise, 2, 2, 258, 0, api.Value{}))[0], goesDown(0))
			logIs(t, x, 0, old...)
			starts(t, x, 0)
			tableIs(t, x, 0, promised(0, 1), promised(2, 2))
			logIs(t, x, 0, promised(0, 1), promised(2, 2))
		}
	}
	x := compacting(t, 11, 0)
	delivers(t, x, of(api.Prepare, 0), api.OK)
	logIs(t, x, 0, promised(0, 1), promised(2, 2))
}

func TestPowerFailsAheadOfACompaction(t *testing.T) {
	old := records(promised(2, 0), promised(0, 1), promised(2, 2))
	for _, c := range []struct{ steps, keep, left int }{{4, 99, 50}, {5, 0, 50}, {5, 24, 74}, {5, 25, 75}} {
		x := compacting(t, c.steps, c.keep)
		from := happened(x)
		delivers(t, x, of(api.Prepare, 0), api.ErrPower)
		traceIs(t, x, from, goesDown(0))
		logIsText(t, x, 0, old[:c.left])
	}
}

// TestPowerFailsBehindACompaction: the log is the new file then.
func TestPowerFailsBehindACompaction(t *testing.T) {
	compacted := records(promised(0, 1), promised(2, 2))
	for _, keep := range []int{0, 7, 25} {
		x := compacting(t, 12, keep)
		delivers(t, x, of(api.Prepare, 0), api.OK)
		answers(t, "Lose", x.Lose(0), api.OK)
		answers(t, "Return", x.Return(0), api.OK)
		asks(t, x, 0, 3)
		delivers(t, x, of(api.Prepare, 0), api.ErrPower)
		logIsText(t, x, 0, compacted+records(api.Row{Lock: 3, Promised: 260})[:keep])
	}
}

// TestPowerFailsInPlaceOfWhatDoesNotFit: such an append is a step, and power that
// fails in its place leaves nobody silent.
func TestPowerFailsInPlaceOfWhatDoesNotFit(t *testing.T) {
	x := moored(t, with(func(c *api.Config) { c.Clients, c.Compact, c.Room = 4, 2, 100 }))
	fails(t, x, 0, 7, 0)
	stores(t, x, 0, 0, api.OK)
	stores(t, x, 1, 1, api.OK)
	asks(t, x, 2, 2)
	from := happened(x)
	delivers(t, x, of(api.Prepare, 0), api.ErrPower)
	traceIs(t, x, from, sent(reply(api.Promise, 2, 2, 258, 0, api.Value{}))[0], goesDown(0))
	isDown(t, x, 0)
	x = moored(t, with(func(c *api.Config) { c.Clients, c.Room = 4, 100 }))
	fails(t, x, 0, 8, 0)
	for client := range 4 {
		stores(t, x, client, 0, api.OK)
	}
	passes(t, x, 0, 5)
	from = happened(x)
	delivers(t, x, of(api.Prepare, 0), api.ErrPower)
	traceIs(t, x, from, goesDown(0))
	isDown(t, x, 0)
}

func TestANewFailTakesThePlaceOfTheOld(t *testing.T) {
	first, second := records(promised(0, 0)), records(promised(0, 1))
	x := moored(t, usual)
	fails(t, x, 0, 1, 0)
	fails(t, x, 0, 3, 7)
	stores(t, x, 0, 0, api.OK)
	stores(t, x, 1, 0, api.ErrPower)
	logIsText(t, x, 0, first+second[:7])
	x = moored(t, usual)
	fails(t, x, 0, 3, 7)
	fails(t, x, 0, 1, 0)
	stores(t, x, 0, 0, api.ErrPower)
	logIs(t, x, 0)
	// At once is a new one, too.
	x = moored(t, usual)
	fails(t, x, 0, 3, 7)
	from := happened(x)
	fails(t, x, 0, 0, 0)
	traceIs(t, x, from, goesDown(0))
}

func TestFailIsCountedFromItsCall(t *testing.T) {
	x := moored(t, usual)
	fails(t, x, 0, 3, 0)
	stores(t, x, 0, 0, api.OK)
	fails(t, x, 0, 3, 5)
	stores(t, x, 1, 0, api.OK)
	stores(t, x, 2, 0, api.ErrPower)
	logIsText(t, x, 0, records(promised(0, 0), promised(0, 1))+records(promised(0, 2))[:5])
}

func TestNoFailIsLeftBehindACrash(t *testing.T) {
	for steps := 1; steps < 6; steps++ {
		x := moored(t, usual)
		fails(t, x, 0, steps, 0)
		fails(t, x, 0, 0, 0)
		starts(t, x, 0)
		for client := range 3 {
			stores(t, x, client, client, api.OK)
		}
		tableIs(t, x, 0, promised(0, 0), promised(1, 1), promised(2, 2))
	}
}

func TestPowerFailsAtOneAcceptor(t *testing.T) {
	x := moored(t, with(func(c *api.Config) { c.F = 2 }))
	fails(t, x, 0, 1, 0)
	fails(t, x, 3, 3, 0)
	begins(t, x, 0, api.Acquire, 0, 9)
	delivers(t, x, of(api.Prepare, 0), api.ErrPower)
	delivers(t, x, of(api.Prepare), api.OK)
	delivers(t, x, of(api.Promise), api.OK)
	delivers(t, x, of(api.Accept, 3), api.ErrPower)
	settle(x)
	endIs(t, x, 0, api.Granted, 1, 256, 256)
	for _, i := range []int{1, 2, 4} {
		tableIs(t, x, i, accepted(0, 256, value(0, 256, 9, 1)))
	}
	isDown(t, x, 0)
	isDown(t, x, 3)
	logIs(t, x, 0)
	logIs(t, x, 3, promised(0, 0))
}

func TestAFailThatIsFarOff(t *testing.T) {
	x := moored(t, with(func(c *api.Config) { c.Compact = 2 }))
	for i := range 3 {
		fails(t, x, i, math.MaxInt, math.MaxInt)
	}
	for range 100 {
		does(t, x, 0, api.Query, 0, 0)
	}
	endIs(t, x, 0, api.Told, 0, 0, 100*256)
}
