package mooring_test

import (
	"math"
	"slices"
	"testing"

	"mooring/api"
	"mooring/mooring"
)

func sent(all ...api.Message) []api.Event {
	var events []api.Event
	for _, m := range all {
		events = append(events, api.Event{Kind: api.Sent, Message: m})
	}
	return events
}

// exampleEvents are the events of the document's second example.
func exampleEvents() []api.Event {
	op := api.Op{Kind: api.Acquire, Lock: 2, Ttl: 10}
	v := value(0, 256, 10, 1)
	promise := api.Message{Kind: api.Promise, Lock: 2, Ballot: 256}
	yes := api.Message{Kind: api.Accepted, Lock: 2, Ballot: 256}
	return slices.Concat(
		[]api.Event{{Kind: api.Began, Op: op}},
		sent(prepares(0, 2, 256, 3)...),
		sent(promise, sentBy(promise, 1), sentBy(promise, 2)),
		sent(accept(0, 2, 256, 0, v), accept(1, 2, 256, 0, v), accept(2, 2, 256, 0, v)),
		sent(yes, sentBy(yes, 1), sentBy(yes, 2)),
		[]api.Event{{Kind: api.Ended, Op: op, Result: api.Granted, Owner: 1, Token: 256, Ballot: 256}},
	)
}

func TestTraceOfTheExample(t *testing.T) {
	x := moored(t, usual)
	does(t, x, 0, api.Acquire, 2, 10)
	want := exampleEvents()
	traceIs(t, x, 0, want...)
	for from := range want {
		traceIs(t, x, from, want[from:]...)
	}
	for _, from := range []int{-1, -14, math.MinInt} {
		traceIs(t, x, from, want...)
	}
	for _, from := range []int{len(want), len(want) + 1, 1 << 32, math.MaxInt} {
		traceIs(t, x, from)
	}
}

func TestTraceOfEveryEnd(t *testing.T) {
	x := moored(t, usual)
	does(t, x, 0, api.Acquire, 1, 10)
	for _, c := range []struct {
		client, kind int
		want         api.Event
	}{
		{0, api.Renew, api.Event{Op: api.Op{Kind: api.Renew, Lock: 1, Ttl: 10}, Result: api.Granted, Owner: 1, Token: 256, Ballot: 512}},
		{1, api.Acquire, api.Event{Op: api.Op{Kind: api.Acquire, Lock: 1, Ttl: 10}, Result: api.Held, Owner: 1, Token: 256, Ballot: 769}},
		{1, api.Renew, api.Event{Op: api.Op{Kind: api.Renew, Lock: 1, Ttl: 10}, Result: api.NotOwner, Ballot: 1025}},
		{1, api.Query, api.Event{Op: api.Op{Kind: api.Query, Lock: 1}, Result: api.Told, Owner: 1, Token: 256, Ballot: 1281}},
		{1, api.Release, api.Event{Op: api.Op{Kind: api.Release, Lock: 1}, Result: api.NotOwner, Ballot: 1537}},
		{0, api.Release, api.Event{Op: api.Op{Kind: api.Release, Lock: 1}, Result: api.Granted, Owner: 1, Token: 256, Ballot: 1792}},
	} {
		does(t, x, c.client, c.kind, 1, 10)
		all := endings(x, c.client)
		c.want.Kind, c.want.Node = api.Ended, c.client
		if got := all[len(all)-1]; got != c.want {
			t.Errorf("the end is %+v\nwant %+v", got, c.want)
		}
	}
}

func TestSendingIsAnEventAndNothingElseOfTheNetIs(t *testing.T) {
	x := moored(t, usual)
	begins(t, x, 1, api.Renew, 0, 10)
	settle(x)
	begins(t, x, 2, api.Query, 3, 0)
	double(x, anything)
	drop(x, of(api.Prepare, 0))
	n := 0
	for _, e := range x.Trace(0) {
		if e.Kind == api.Sent {
			n++
		}
	}
	if n != 15 {
		t.Errorf("%d messages were sent, want 15", n)
	}
}

func TestTableAndLogRefuse(t *testing.T) {
	x := moored(t, usual)
	for _, i := range []int{math.MinInt, -1, 3, 4, 5, 1 << 32, math.MaxInt} {
		rows, e := x.Table(i)
		s, f := x.Log(i)
		if rows != nil || e != api.ErrArg || s != "" || f != api.ErrArg {
			t.Errorf("Table, Log(%d) = %v, %d, %q, %d", i, rows, e, s, f)
		}
	}
}

func TestTableOfOneThatIsDown(t *testing.T) {
	x := moored(t, usual)
	does(t, x, 0, api.Acquire, 0, 9)
	v := value(0, 256, 9, 1)
	fails(t, x, 2, 0, 0)
	isDown(t, x, 2)
	logIs(t, x, 2, api.Row{Promised: 256}, accepted(0, 256, v))
	rows, e := x.Table(3)
	if rows != nil || e != api.ErrArg {
		t.Errorf("Table(3) = %+v, %d", rows, e)
	}
	tableIs(t, x, 1, accepted(0, 256, v))
	starts(t, x, 2)
	tableIs(t, x, 2, accepted(0, 256, v))
}

func TestReplayOfALogIsItsTable(t *testing.T) {
	x := moored(t, with(func(c *api.Config) { c.Compact = 3 }))
	for n := range 40 {
		begins(t, x, n%3, 1+n%4, n*7%4, 1+n)
		for i := 0; i < 12 && x.Deliver(n*5%max(len(x.Net()), 1)) == api.OK; i++ {
			for acceptor := range 3 {
				rows, _ := x.Table(acceptor)
				s, _ := x.Log(acceptor)
				if again, bytes := mooring.Replay(s); !slices.Equal(rows, again) || bytes != len(s) {
					t.Fatalf("Table(%d) = %+v, its log is that of %+v", acceptor, rows, again)
				}
			}
		}
		settle(x)
	}
}

func spoil[T any](list []T, with T) {
	list = list[:cap(list)]
	for i := range list {
		list[i] = with
	}
}

func TestListsAreNewMemory(t *testing.T) {
	x := moored(t, usual)
	for n := range 30 {
		begins(t, x, n%3, api.Acquire, n%4, 5)
		for range n % 7 {
			x.Deliver(n % len(x.Net()))
		}
		ahead := look(x)
		spoil(x.Net(), api.Message{Kind: 99})
		for from := range happened(x) + 2 {
			spoil(x.Trace(from), api.Event{Kind: 99})
		}
		for i := range 3 {
			rows, _ := x.Table(i)
			spoil(rows, api.Row{Lock: 99})
		}
		if !look(x).is(ahead) {
			t.Fatalf("what is written into a list is seen in what comes out later")
		}
		settle(x)
	}
}

func TestListsStayAsTheyCameOut(t *testing.T) {
	x := moored(t, usual)
	for n := range 30 {
		begins(t, x, n%3, api.Acquire, n%4, 5)
		for range n % 7 {
			x.Deliver(n % len(x.Net()))
		}
		net, trace := x.Net(), x.Trace(0)
		rows, _ := x.Table(0)
		net, trace, rows = net[:cap(net)], trace[:cap(trace)], rows[:cap(rows)]
		keptNet, keptTrace, keptRows := slices.Clone(net), slices.Clone(trace), slices.Clone(rows)
		x.Copy(0)
		x.Drop(0)
		x.Fail(n%3, n%5, n)
		settle(x)
		does(t, x, 0, api.Release, n%4, 0)
		x.Start(n % 3)
		if !slices.Equal(net, keptNet) || !slices.Equal(trace, keptTrace) || !slices.Equal(rows, keptRows) {
			t.Fatalf("a later call has changed a list")
		}
	}
}

func TestCallsOfAMooringEndAtAllNumbers(t *testing.T) {
	x := moored(t, usual)
	for _, a := range oddNumbers {
		for _, b := range oddNumbers {
			for _, c := range oddNumbers {
				x.Begin(a, b, c, 1)
				x.Begin(0, b, c, a)
			}
			x.Holds(a, b)
		}
		for _, call := range []func(int) api.Errno{x.Tick, x.Copy, x.Deliver, x.Drop, x.Lose, x.Return} {
			call(a)
		}
		for _, b := range oddNumbers {
			x.Fail(a, b, a)
			x.Fail(0, a, b)
			x.Fail(1, b, a)
			x.Start(a)
			x.Start(b)
			x.Begin(1, api.Query, 0, 0)
			settle(x)
		}
		x.Busy(a)
		x.Trace(a)
		x.Table(a)
		x.Log(a)
	}
}
