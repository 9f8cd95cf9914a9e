package mooring_test

import (
	"math"
	"slices"
	"testing"

	"mooring/api"
)

var wrongPlaces = []int{math.MinInt, -1 << 32, -1, 3, 4, 1 << 32, math.MaxInt}

func TestNoSuchMessage(t *testing.T) {
	x := moored(t, usual)
	for _, i := range append([]int{0}, wrongPlaces...) {
		answers(t, "Deliver of nothing", x.Deliver(i), api.ErrArg)
		answers(t, "Drop of nothing", x.Drop(i), api.ErrArg)
		answers(t, "Copy of nothing", x.Copy(i), api.ErrArg)
	}
	begins(t, x, 0, api.Query, 0, 0)
	ahead := look(x)
	for _, i := range wrongPlaces {
		answers(t, "Deliver of none", x.Deliver(i), api.ErrArg)
		answers(t, "Drop of none", x.Drop(i), api.ErrArg)
		answers(t, "Copy of none", x.Copy(i), api.ErrArg)
	}
	if !look(x).is(ahead) {
		t.Errorf("a call that was refused has changed something")
	}
}

func TestDropTakesOne(t *testing.T) {
	for i := range 3 {
		x := moored(t, usual)
		begins(t, x, 0, api.Query, 0, 0)
		from := happened(x)
		answers(t, "Drop", x.Drop(i), api.OK)
		netIs(t, x, slices.Delete(prepares(0, 0, 256, 3), i, i+1)...)
		traceIs(t, x, from)
		tableIs(t, x, i)
	}
}

func TestCopyPutsOneMoreBehindAll(t *testing.T) {
	for i := range 3 {
		x := moored(t, usual)
		begins(t, x, 0, api.Query, 0, 0)
		from := happened(x)
		answers(t, "Copy", x.Copy(i), api.OK)
		all := prepares(0, 0, 256, 3)
		netIs(t, x, append(all, all[i])...)
		answers(t, "Copy of a copy", x.Copy(3), api.OK)
		netIs(t, x, append(all, all[i], all[i])...)
		traceIs(t, x, from)
	}
}

func TestDeliverTakesOneAndPutsItsAnswerBehindAll(t *testing.T) {
	for i := range 3 {
		x := moored(t, usual)
		begins(t, x, 1, api.Query, 3, 0)
		from := happened(x)
		answers(t, "Deliver", x.Deliver(i), api.OK)
		promise := api.Message{Kind: api.Promise, From: i, To: 1, Lock: 3, Ballot: 257}
		netIs(t, x, append(slices.Delete(prepares(1, 3, 257, 3), i, i+1), promise)...)
		traceIs(t, x, from, api.Event{Kind: api.Sent, Message: promise})
		for j := range 3 {
			if j != i {
				tableIs(t, x, j)
			}
		}
		tableIs(t, x, i, api.Row{Lock: 3, Promised: 257})
	}
}

func TestDeliverToOneThatIsDown(t *testing.T) {
	x := moored(t, usual)
	begins(t, x, 0, api.Acquire, 0, 9)
	deliver(x, of(api.Prepare))
	answers(t, "Lose", x.Lose(0), api.OK)
	from := happened(x)
	for left := 3; left > 0; left-- {
		if n := len(x.Net()); n != left {
			t.Errorf("%d messages are on their way, want %d", n, left)
		}
		answers(t, "Deliver to one that is down", x.Deliver(0), api.OK)
	}
	netIs(t, x)
	traceIs(t, x, from)
}

func TestAnAcceptorAnswersOneThatIsDown(t *testing.T) {
	x := moored(t, usual)
	begins(t, x, 0, api.Acquire, 0, 9)
	answers(t, "Lose", x.Lose(0), api.OK)
	deliver(x, of(api.Prepare, 1))
	deliver(x, of(api.Prepare))
	if n := len(x.Net()); n != 3 {
		t.Errorf("%d answers are on their way, want 3", n)
	}
	tableIs(t, x, 1, api.Row{Promised: 256})
}

func TestAQuorumOfFive(t *testing.T) {
	x := moored(t, with(func(c *api.Config) { c.F = 2 }))
	begins(t, x, 0, api.Acquire, 1, 9)
	deliver(x, of(api.Prepare))
	deliver(x, of(api.Promise, 4, 2))
	drop(x, of(api.Promise, 0, 1))
	netIs(t, x, api.Message{Kind: api.Promise, From: 3, Lock: 1, Ballot: 256})
	deliver(x, of(api.Promise, 3))
	if n := len(x.Net()); n != 5 {
		t.Fatalf("%d Accepts, want 5", n)
	}
	deliver(x, of(api.Accept))
	deliver(x, of(api.Accepted, 0, 3))
	busyIs(t, x, 0, true)
	deliver(x, of(api.Accepted, 1))
	busyIs(t, x, 0, false)
	endIs(t, x, 0, api.Granted, 1, 256, 256)
}

func TestOneAcceptorCountsOnce(t *testing.T) {
	x := moored(t, usual)
	begins(t, x, 0, api.Acquire, 0, 9)
	answers(t, "Copy", x.Copy(2), api.OK)
	deliver(x, of(api.Prepare, 2))
	answers(t, "Copy", x.Copy(3), api.OK)
	drop(x, of(api.Prepare))
	deliver(x, of(api.Promise))
	netIs(t, x)
	passes(t, x, 0, 5)
	deliver(x, of(api.Prepare))
	deliver(x, of(api.Promise, 0, 1))
	for range 2 {
		answers(t, "Copy", x.Copy(1), api.OK)
	}
	deliver(x, of(api.Accept, 0))
	if n := len(x.Net()); n != 6 {
		t.Fatalf("%d messages, want 6", n)
	}
	drop(x, of(api.Accept, 1, 2))
	deliver(x, of(api.Accepted))
	busyIs(t, x, 0, true)
}

func TestEveryAcceptedOfOneAcceptorCountsOnce(t *testing.T) {
	x := moored(t, usual)
	begins(t, x, 0, api.Acquire, 0, 9)
	propose(x)
	double(x, of(api.Accept, 1))
	double(x, of(api.Accept, 1))
	deliver(x, of(api.Accept, 1))
	deliver(x, of(api.Accepted))
	busyIs(t, x, 0, true)
	logIs(t, x, 1, append([]api.Row{{Promised: 256}}, slices.Repeat([]api.Row{accepted(0, 256, value(0, 256, 9, 1))}, 4)...)...)
	deliver(x, of(api.Accept, 2))
	deliver(x, of(api.Accepted))
	busyIs(t, x, 0, false)
}

func TestWhatComesLateDoesNothing(t *testing.T) {
	x := moored(t, usual)
	begins(t, x, 0, api.Acquire, 0, 9)
	deliver(x, of(api.Prepare))
	double(x, of(api.Promise))
	deliver(x, of(api.Promise, 0, 1))
	from := happened(x)
	deliver(x, of(api.Promise))
	traceIs(t, x, from)
	deliver(x, of(api.Accept))
	double(x, of(api.Accepted))
	deliver(x, of(api.Accepted))
	deliver(x, of(api.Accepted))
	if n := len(endings(x, 0)); n != 1 {
		t.Errorf("%d ends of one operation", n)
	}
	netIs(t, x)
}

func TestMessagesOfOtherBallotsDoNothing(t *testing.T) {
	x := moored(t, usual)
	begins(t, x, 0, api.Acquire, 0, 9)
	deliver(x, of(api.Prepare))
	drop(x, of(api.Promise, 2))
	passes(t, x, 0, 5)
	from := happened(x)
	deliver(x, of(api.Promise))
	traceIs(t, x, from)
	netIs(t, x, prepares(0, 0, 512, 3)...)
	settle(x)
	endIs(t, x, 0, api.Granted, 1, 512, 512)
}

func TestNacksOfOtherBallotsDoNothing(t *testing.T) {
	x := moored(t, usual)
	for range 6 {
		does(t, x, 1, api.Query, 0, 0)
	}
	begins(t, x, 0, api.Acquire, 0, 9)
	deliver(x, of(api.Prepare))
	passes(t, x, 0, 5)
	from := happened(x)
	deliver(x, of(api.Nack))
	traceIs(t, x, from)
	drop(x, anything)
	passes(t, x, 0, 5)
	// The rounds of those Nacks were not seen.
	netIs(t, x, prepares(0, 0, 768, 3)...)
}

func TestANackOfWhatHasEndedDoesNothing(t *testing.T) {
	x := moored(t, with(func(c *api.Config) { c.Tries = 1 }))
	for range 6 {
		does(t, x, 1, api.Query, 0, 0)
	}
	begins(t, x, 0, api.Acquire, 0, 9)
	deliver(x, of(api.Prepare))
	passes(t, x, 0, 5)
	endIs(t, x, 0, api.Unknown, 0, 0, 256)
	deliver(x, of(api.Nack))
	begins(t, x, 0, api.Query, 1, 0)
	netIs(t, x, prepares(0, 1, 512, 3)...)
}

func TestANackEndsAnAttemptBehindItsQuorum(t *testing.T) {
	x := moored(t, usual)
	begins(t, x, 0, api.Acquire, 0, 9)
	propose(x)
	for range 8 {
		begins(t, x, 1, api.Query, 1, 0)
		settleLock(x, 1)
	}
	begins(t, x, 1, api.Query, 0, 0)
	deliver(x, of(api.Prepare))
	drop(x, of(api.Promise))
	deliver(x, of(api.Accept, 0))
	netIs(t, x,
		accept(1, 0, 256, 0, value(0, 256, 9, 1)),
		accept(2, 0, 256, 0, value(0, 256, 9, 1)),
		api.Message{Kind: api.Nack, Ballot: 256, Base: 9*256 + 1},
	)
	drop(x, of(api.Accept))
	deliver(x, of(api.Nack))
	netIs(t, x, prepares(0, 0, 10*256, 3)...)
}
