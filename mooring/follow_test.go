package mooring_test

import (
	"testing"

	"mooring/api"
	"mooring/mooring"
)

// valueIs tells what was accepted last of a lock, by all acceptors.
func valueIs(t *testing.T, x *mooring.Mooring, lock, ballot int, v api.Value) {
	t.Helper()
	for i := range 3 {
		rows, _ := x.Table(i)
		want := accepted(lock, ballot, v)
		found := false
		for _, r := range rows {
			found = found || r == want
		}
		if !found {
			t.Errorf("Table(%d) = %+v, want %+v in it", i, rows, want)
		}
	}
}

func TestAcquire(t *testing.T) {
	x := moored(t, usual)
	does(t, x, 0, api.Acquire, 2, 10)
	endIs(t, x, 0, api.Granted, 1, 256, 256)
	valueIs(t, x, 2, 256, value(0, 256, 10, 1))
	// Another's is held, and stays as it is, under a greater ballot.
	does(t, x, 2, api.Acquire, 2, 30)
	endIs(t, x, 2, api.Held, 1, 256, 258)
	valueIs(t, x, 2, 258, value(0, 256, 10, 1))
	holdIs(t, x, 2, 2, false)
	// One's own is acquired anew.
	does(t, x, 0, api.Acquire, 2, 20)
	endIs(t, x, 0, api.Granted, 1, 512, 512)
	valueIs(t, x, 2, 512, value(0, 512, 20, 1))
	does(t, x, 0, api.Release, 2, 0)
	does(t, x, 2, api.Acquire, 2, 30)
	endIs(t, x, 2, api.Granted, 3, 4*256+2, 4*256+2)
	valueIs(t, x, 2, 4*256+2, value(2, 4*256+2, 30, 1))
}

func TestAcceptsTellTheirBase(t *testing.T) {
	x := moored(t, usual)
	does(t, x, 0, api.Acquire, 2, 10)
	begins(t, x, 0, api.Renew, 2, 20)
	propose(x)
	v := value(0, 256, 20, 2)
	netIs(t, x, accept(0, 2, 512, 256, v), accept(1, 2, 512, 256, v), accept(2, 2, 512, 256, v))
}

func TestTheGreatestBaseCounts(t *testing.T) {
	for _, order := range [][]int{{0, 1, 2}, {2, 1, 0}, {1, 0, 2}} {
		x := moored(t, with(func(c *api.Config) { c.F = 2 }))
		does(t, x, 0, api.Acquire, 0, 10)
		// A renewal is accepted by acceptor 1 alone.
		begins(t, x, 0, api.Renew, 0, 20)
		propose(x)
		deliver(x, of(api.Accept, 1))
		drop(x, anything)
		begins(t, x, 1, api.Query, 0, 0)
		deliver(x, of(api.Prepare, order...))
		deliver(x, of(api.Nack))
		drop(x, of(api.Prepare, 3, 4))
		for _, i := range order {
			deliver(x, of(api.Prepare, i))
		}
		deliver(x, of(api.Promise))
		v := value(0, 256, 20, 2)
		m := x.Net()
		if len(m) != 5 || m[0].Base != 512 || m[0].Value != v || m[0].Ballot != 3*256+1 {
			t.Errorf("order %v: %+v, want Accepts of %+v with base 512", order, m, v)
		}
		settle(x)
		endIs(t, x, 1, api.Told, 1, 256, 3*256+1)
	}
}

func TestRenew(t *testing.T) {
	x := moored(t, usual)
	does(t, x, 0, api.Renew, 0, 10)
	endIs(t, x, 0, api.NotOwner, 0, 0, 256)
	valueIs(t, x, 0, 256, api.Value{})
	does(t, x, 0, api.Acquire, 0, 10)
	for n := range 5 {
		does(t, x, 0, api.Renew, 0, 20+n)
		endIs(t, x, 0, api.Granted, 1, 512, 256*(3+n))
		valueIs(t, x, 0, 256*(3+n), value(0, 512, 20+n, 2+n))
	}
	// Another's lock is not renewed, nor is it changed.
	does(t, x, 1, api.Renew, 0, 99)
	endIs(t, x, 1, api.NotOwner, 0, 0, 8*256+1)
	valueIs(t, x, 0, 8*256+1, value(0, 512, 24, 6))
	// A hold that is over may be renewed, as long as nobody has taken the lock.
	passes(t, x, 0, 500)
	holdIs(t, x, 0, 0, false)
	does(t, x, 0, api.Renew, 0, 5)
	endIs(t, x, 0, api.Granted, 1, 512, 9*256)
	holdEnds(t, x, 0, 0, 5)
	does(t, x, 0, api.Release, 0, 0)
	does(t, x, 0, api.Renew, 0, 5)
	endIs(t, x, 0, api.NotOwner, 0, 0, 11*256)
	holdIs(t, x, 0, 0, false)
}

func TestATokenOfAnotherLockIsNone(t *testing.T) {
	x := moored(t, usual)
	does(t, x, 0, api.Acquire, 1, 10)
	does(t, x, 0, api.Renew, 0, 10)
	endIs(t, x, 0, api.NotOwner, 0, 0, 512)
	does(t, x, 0, api.Renew, 1, 10)
	endIs(t, x, 0, api.Granted, 1, 256, 768)
}

func TestTheTokenMustBeTheLastThatWasGranted(t *testing.T) {
	for _, kind := range []int{api.Renew, api.Release} {
		x := moored(t, with(func(c *api.Config) { c.Tries = 1 }))
		does(t, x, 0, api.Acquire, 0, 10)
		// An Acquire is accepted, but its client does not hear of it.
		begins(t, x, 0, api.Acquire, 0, 10)
		propose(x)
		deliver(x, of(api.Accept))
		drop(x, of(api.Accepted))
		passes(t, x, 0, 5)
		endIs(t, x, 0, api.Unknown, 0, 0, 512)
		holdIs(t, x, 0, 0, true)
		does(t, x, 0, kind, 0, 10)
		endIs(t, x, 0, api.NotOwner, 0, 0, 768)
		valueIs(t, x, 0, 768, value(0, 512, 10, 1))
		holdIs(t, x, 0, 0, false)
	}
}

func TestReleaseEnds(t *testing.T) {
	x := moored(t, usual)
	does(t, x, 0, api.Release, 0, 0)
	endIs(t, x, 0, api.NotOwner, 0, 0, 256)
	does(t, x, 0, api.Acquire, 0, 10)
	does(t, x, 0, api.Renew, 0, 20)
	does(t, x, 1, api.Release, 0, 0)
	endIs(t, x, 1, api.NotOwner, 0, 0, 4*256+1)
	valueIs(t, x, 0, 4*256+1, value(0, 512, 20, 2))
	does(t, x, 0, api.Release, 0, 0)
	endIs(t, x, 0, api.Granted, 1, 512, 5*256)
	valueIs(t, x, 0, 5*256, api.Value{Token: 512, Seq: 5 * 256})
	holdIs(t, x, 0, 0, false)
	does(t, x, 0, api.Release, 0, 0)
	endIs(t, x, 0, api.NotOwner, 0, 0, 6*256)
	does(t, x, 1, api.Query, 0, 0)
	endIs(t, x, 1, api.Told, 0, 512, 7*256+1)
	valueIs(t, x, 0, 7*256+1, api.Value{Token: 512, Seq: 5 * 256})
}

func TestQuery(t *testing.T) {
	x := moored(t, usual)
	does(t, x, 1, api.Query, 3, 0)
	endIs(t, x, 1, api.Told, 0, 0, 257)
	does(t, x, 0, api.Acquire, 3, 10)
	does(t, x, 1, api.Query, 3, 0)
	endIs(t, x, 1, api.Told, 1, 512, 513)
	does(t, x, 0, api.Query, 3, 0)
	endIs(t, x, 0, api.Told, 1, 512, 768)
	valueIs(t, x, 3, 768, value(0, 512, 10, 1))
	holdIs(t, x, 0, 3, true)
	does(t, x, 0, api.Renew, 3, 10)
	endIs(t, x, 0, api.Granted, 1, 512, 4*256)
}

// lastAttempt brings what client 0 has begun to Accepts, has them accepted by
// these acceptors, loses the answers, and lets its next attempt begin.
func lastAttempt(t *testing.T, x *mooring.Mooring, acceptors ...int) {
	t.Helper()
	propose(x)
	if len(acceptors) > 0 {
		deliver(x, of(api.Accept, acceptors...))
	}
	drop(x, anything)
	passes(t, x, 0, 5)
}

func TestAnAcquireKnowsItsOwnToken(t *testing.T) {
	x := moored(t, usual)
	passes(t, x, 0, 3)
	begins(t, x, 0, api.Acquire, 0, 30)
	lastAttempt(t, x, 1)
	lastAttempt(t, x, 0) // acceptor 1's value is sent again, not another one
	propose(x)
	if m := x.Net(); len(m) != 3 || m[0].Value != value(0, 256, 30, 1) {
		t.Errorf("Accepts: %+v, want the value of the first attempt", m)
	}
	settle(x)
	endIs(t, x, 0, api.Granted, 1, 256, 768)
	holdEnds(t, x, 0, 0, 20)
	does(t, x, 0, api.Renew, 0, 10)
	endIs(t, x, 0, api.Granted, 1, 256, 4*256)
}

func TestAnAcquireThatFindsItsValueNowhereMakesAnother(t *testing.T) {
	x := moored(t, usual)
	begins(t, x, 0, api.Acquire, 0, 30)
	lastAttempt(t, x)
	lastAttempt(t, x)
	settle(x)
	endIs(t, x, 0, api.Granted, 1, 768, 768)
}

func TestAnAcquireThatMayHaveBeenOvertaken(t *testing.T) {
	x := moored(t, usual)
	begins(t, x, 0, api.Acquire, 0, 30)
	lastAttempt(t, x)
	drop(x, anything)
	does(t, x, 1, api.Acquire, 0, 30)
	endIs(t, x, 1, api.Granted, 2, 257, 257)
	passes(t, x, 0, 5)
	settle(x)
	// 257 is above its own 256: whether that was ever accepted, it cannot know.
	endIs(t, x, 0, api.Unknown, 0, 0, 768)
	for i := range 3 {
		tableIs(t, x, i, api.Row{Promised: 768, Accepted: 257, Value: value(1, 257, 30, 1)})
	}
}

func TestATokenBelowAllOfOnesOwnIsNoRiddle(t *testing.T) {
	x := moored(t, usual)
	does(t, x, 1, api.Acquire, 0, 30)
	does(t, x, 0, api.Acquire, 0, 30)
	endIs(t, x, 0, api.Held, 2, 257, 512)
	begins(t, x, 0, api.Acquire, 0, 30)
	lastAttempt(t, x) // it sends another's value: it is not its own
	settle(x)
	endIs(t, x, 0, api.Held, 2, 257, 4*256)
	// Taken over by the first attempt, but nobody heard of it; the old value stands.
	passes(t, x, 0, 40)
	begins(t, x, 0, api.Acquire, 0, 30)
	lastAttempt(t, x)
	settle(x)
	endIs(t, x, 0, api.Granted, 1, 6*256, 6*256)
}

func TestAnAcquireThatWasNackedAheadOfItsAcceptsHasNothingOfItsOwn(t *testing.T) {
	x := moored(t, usual)
	does(t, x, 1, api.Acquire, 0, 30)
	begins(t, x, 0, api.Acquire, 0, 30)
	settle(x)
	// 257 is above 256, the ballot of its first attempt, which has sent nothing.
	endIs(t, x, 0, api.Held, 2, 257, 512)
}

func TestWhatOnlySendsAnothersValueHasNothingOfItsOwn(t *testing.T) {
	for _, c := range []struct{ kind, result, owner, token int }{
		{api.Acquire, api.Held, 2, 1025}, {api.Renew, api.NotOwner, 0, 0}, {api.Release, api.NotOwner, 0, 0}, {api.Query, api.Told, 2, 1025},
	} {
		x := moored(t, usual)
		does(t, x, 1, api.Acquire, 0, 30)
		does(t, x, 0, api.Query, 0, 0)
		begins(t, x, 0, c.kind, 0, 30)
		lastAttempt(t, x) // under 768, which is above 257
		drop(x, anything)
		does(t, x, 1, api.Acquire, 0, 30)
		endIs(t, x, 1, api.Granted, 2, 1025, 1025)
		passes(t, x, 0, 5)
		settle(x)
		endIs(t, x, 0, c.result, c.owner, c.token, 5*256)
	}
}

func TestAReleaseKnowsItsOwnSeq(t *testing.T) {
	x := moored(t, usual)
	does(t, x, 0, api.Acquire, 0, 30)
	begins(t, x, 0, api.Release, 0, 0)
	lastAttempt(t, x, 0, 1, 2)
	valueIs(t, x, 0, 512, api.Value{Token: 256, Seq: 512})
	lastAttempt(t, x, 0)
	propose(x)
	if m := x.Net(); len(m) != 3 || m[0].Value != (api.Value{Token: 256, Seq: 512}) {
		t.Errorf("Accepts: %+v, want the value of the first attempt", m)
	}
	settle(x)
	endIs(t, x, 0, api.Granted, 1, 256, 4*256)
	does(t, x, 0, api.Release, 0, 0)
	endIs(t, x, 0, api.NotOwner, 0, 0, 5*256)
}

// followed has a Release of client 0 accepted by all, without its hearing of it,
// and client 1 acquire the lock.
func followed(t *testing.T) *mooring.Mooring {
	t.Helper()
	x := moored(t, usual)
	does(t, x, 0, api.Acquire, 0, 30)
	begins(t, x, 0, api.Release, 0, 0)
	lastAttempt(t, x, 0, 1, 2)
	drop(x, anything)
	does(t, x, 1, api.Acquire, 0, 30)
	endIs(t, x, 1, api.Granted, 2, 769, 769)
	return x
}

func TestAReleaseThatMayHaveBeenFollowed(t *testing.T) {
	x := followed(t)
	passes(t, x, 0, 5)
	settle(x)
	endIs(t, x, 0, api.Unknown, 0, 0, 4*256)
	for i := range 3 {
		tableIs(t, x, i, api.Row{Promised: 4 * 256, Accepted: 769, Value: value(1, 769, 30, 1)})
	}
	// It is not known, so the token stays; but it is of no use.
	does(t, x, 0, api.Release, 0, 0)
	endIs(t, x, 0, api.NotOwner, 0, 0, 5*256)
}

func TestAReleaseThatMayHaveBeenFollowedByAnothers(t *testing.T) {
	x := followed(t)
	does(t, x, 1, api.Release, 0, 30)
	endIs(t, x, 1, api.Granted, 2, 769, 4*256+1)
	passes(t, x, 0, 10)
	settle(x)
	// The lock is nobody's, but by a release that is not its own.
	if all := endings(x, 0); all[len(all)-1].Result != api.Unknown {
		t.Errorf("the ends are %+v", all)
	}
}

// TestAReleaseFindsAnEarlierOneOfItsOwnToken: an Accept of an earlier operation has
// been accepted by acceptor 2 alone.
func TestAReleaseFindsAnEarlierOneOfItsOwnToken(t *testing.T) {
	x := moored(t, with(func(c *api.Config) { c.Tries = 2 }))
	does(t, x, 0, api.Acquire, 0, 30)
	begins(t, x, 0, api.Release, 0, 0)
	drop(x, of(api.Prepare, 2))
	lastAttempt(t, x, 2)
	drop(x, anything)
	passes(t, x, 0, 5)
	endIs(t, x, 0, api.Unknown, 0, 0, 768)
	begins(t, x, 0, api.Release, 0, 0)
	drop(x, of(api.Prepare, 2))
	lastAttempt(t, x)
	drop(x, of(api.Prepare, 0))
	settle(x)
	endIs(t, x, 0, api.NotOwner, 0, 0, 5*256)
	tableIs(t, x, 1, accepted(0, 5*256, api.Value{Token: 256, Seq: 512}))
}

func TestAReleaseThatWasNotAcceptedIsSentAnew(t *testing.T) {
	x := moored(t, usual)
	does(t, x, 0, api.Acquire, 0, 30)
	begins(t, x, 0, api.Release, 0, 0)
	lastAttempt(t, x)
	settle(x)
	endIs(t, x, 0, api.Granted, 1, 256, 768)
	valueIs(t, x, 0, 768, api.Value{Token: 256, Seq: 768})
}

func TestAReleaseMeetsAnEarlierOneOfItsOwnClient(t *testing.T) {
	x := moored(t, with(func(c *api.Config) { c.Tries = 1 }))
	does(t, x, 0, api.Acquire, 0, 30)
	begins(t, x, 0, api.Release, 0, 0)
	lastAttempt(t, x, 0, 1, 2)
	endIs(t, x, 0, api.Unknown, 0, 0, 512)
	// Seq 512 is not of an attempt of this operation, and it has sent nothing.
	does(t, x, 0, api.Release, 0, 0)
	endIs(t, x, 0, api.NotOwner, 0, 0, 768)
	valueIs(t, x, 0, 768, api.Value{Token: 256, Seq: 512})
}

// waits are how many ticks a lock of a ttl is to be watched.
var waits = []struct{ drift, ttl, ticks int }{
	{0, 1, 3}, {0, 10, 12}, {0, 1000, 1002},
	{1, 1, 4}, {1, 10, 13}, {1, 11, 15}, {3, 7, 12}, {5, 3, 7}, {9, 9, 20},
	{10, 1, 4}, {10, 5, 12}, {10, 1000, 2002},
}

func TestALockIsTakenOverBehindItsTime(t *testing.T) {
	for _, kind := range []int{api.Query, api.Acquire} {
		for _, w := range waits {
			x := moored(t, with(func(c *api.Config) { c.Drift = w.drift }))
			does(t, x, 0, api.Acquire, 0, w.ttl)
			passes(t, x, 1, 5)
			does(t, x, 1, kind, 0, 7) // the watch begins as it ends
			passes(t, x, 1, w.ticks-1)
			does(t, x, 1, api.Acquire, 0, 7)
			endIs(t, x, 1, api.Held, 1, 256, 513)
			passes(t, x, 1, 1)
			does(t, x, 1, api.Acquire, 0, 7)
			endIs(t, x, 1, api.Granted, 2, 769, 769)
			valueIs(t, x, 0, 769, value(1, 769, 7, 1))
			holdEnds(t, x, 1, 0, 7)
		}
	}
}

func TestTheAttemptMustBeginBehindTheTime(t *testing.T) {
	x := moored(t, usual)
	does(t, x, 0, api.Acquire, 0, 10)
	does(t, x, 1, api.Query, 0, 0)
	passes(t, x, 1, 11)
	begins(t, x, 1, api.Acquire, 0, 5)
	passes(t, x, 1, 4)
	settle(x)
	endIs(t, x, 1, api.Held, 1, 256, 513)
	// Its second attempt begins behind the time, though the operation does not.
	y := moored(t, usual)
	does(t, y, 0, api.Acquire, 0, 10)
	does(t, y, 1, api.Query, 0, 0)
	passes(t, y, 1, 8)
	begins(t, y, 1, api.Acquire, 0, 9)
	passes(t, y, 1, 5)
	settle(y)
	endIs(t, y, 1, api.Granted, 2, 769, 769)
	holdEnds(t, y, 1, 0, 4)
}

func TestTheWatchBeginsWhenTheOperationEnds(t *testing.T) {
	x := moored(t, usual)
	does(t, x, 0, api.Acquire, 0, 10)
	begins(t, x, 1, api.Query, 0, 0)
	passes(t, x, 1, 4)
	settle(x)
	passes(t, x, 1, 11)
	does(t, x, 1, api.Acquire, 0, 5)
	endIs(t, x, 1, api.Held, 1, 256, 513)
	passes(t, x, 1, 1)
	does(t, x, 1, api.Acquire, 0, 5)
	endIs(t, x, 1, api.Granted, 2, 769, 769)
}

func TestAWatchIsOfOneOwnerTokenAndSeq(t *testing.T) {
	for _, change := range []func(*mooring.Mooring){
		func(x *mooring.Mooring) { does(t, x, 0, api.Renew, 0, 3) },
		func(x *mooring.Mooring) { does(t, x, 0, api.Acquire, 0, 3) },
		func(x *mooring.Mooring) { does(t, x, 0, api.Release, 0, 0); does(t, x, 2, api.Acquire, 0, 3) },
	} {
		x := moored(t, usual)
		does(t, x, 0, api.Acquire, 0, 3)
		does(t, x, 1, api.Query, 0, 0)
		passes(t, x, 1, 100)
		change(x)
		does(t, x, 1, api.Acquire, 0, 5)
		if all := endings(x, 1); all[len(all)-1].Result != api.Held {
			t.Errorf("a lock that has changed since is taken over: %+v", all)
		}
		passes(t, x, 1, 4)
		does(t, x, 1, api.Acquire, 0, 5)
		if all := endings(x, 1); all[len(all)-1].Result != api.Held {
			t.Errorf("a lock that has changed since is taken over: %+v", all)
		}
		passes(t, x, 1, 1)
		does(t, x, 1, api.Acquire, 0, 5)
		if all := endings(x, 1); all[len(all)-1].Result != api.Granted {
			t.Errorf("a lock that stays as it is is not taken over: %+v", all)
		}
	}
}

func TestAWatchIsOfOneLock(t *testing.T) {
	x := moored(t, usual)
	does(t, x, 0, api.Acquire, 0, 3)
	does(t, x, 0, api.Acquire, 1, 3)
	does(t, x, 1, api.Query, 0, 0)
	passes(t, x, 1, 50)
	does(t, x, 1, api.Acquire, 1, 5)
	endIs(t, x, 1, api.Held, 1, 512, 513)
	does(t, x, 1, api.Acquire, 0, 5)
	endIs(t, x, 1, api.Granted, 2, 769, 769)
}

func TestAWatchStaysWhileNobodyIsToldOtherwise(t *testing.T) {
	x := moored(t, usual)
	does(t, x, 0, api.Acquire, 0, 10)
	does(t, x, 1, api.Query, 0, 0)
	for range 6 {
		passes(t, x, 1, 2)
		does(t, x, 1, api.Query, 0, 0)
	}
	does(t, x, 1, api.Acquire, 0, 5)
	endIs(t, x, 1, api.Granted, 2, 8*256+1, 8*256+1)
}

func TestNothingIsTakenOverThatWasNotWatched(t *testing.T) {
	x := moored(t, usual)
	does(t, x, 0, api.Acquire, 0, 1)
	passes(t, x, 1, 1000)
	does(t, x, 1, api.Acquire, 0, 5)
	endIs(t, x, 1, api.Held, 1, 256, 257)
	// What ends NotOwner does not watch.
	does(t, x, 2, api.Renew, 0, 5)
	passes(t, x, 2, 1000)
	does(t, x, 2, api.Acquire, 0, 5)
	endIs(t, x, 2, api.Held, 1, 256, 514)
}
