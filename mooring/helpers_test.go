package mooring_test

import (
	"slices"
	"testing"

	"mooring/api"
	"mooring/mooring"
)

// usual is a configuration in which nothing is short.
var usual = api.Config{F: 1, Clients: 3, Patience: 5, Tries: 4, Drift: 0, Compact: 16, Room: 2000}

// with is the usual configuration, changed.
func with(change func(*api.Config)) api.Config {
	c := usual
	change(&c)
	return c
}

func moored(t *testing.T, c api.Config) *mooring.Mooring {
	t.Helper()
	x, e := mooring.New(c)
	if x == nil || e != api.OK {
		t.Fatalf("New(%+v) = %v, %d", c, x, e)
	}
	return x
}

func answers(t *testing.T, call string, got, want api.Errno) {
	t.Helper()
	if got != want {
		t.Errorf("%s = %d, want %d", call, got, want)
	}
}

func begins(t *testing.T, x *mooring.Mooring, client, kind, lock, ttl int) {
	t.Helper()
	answers(t, "Begin", x.Begin(client, kind, lock, ttl), api.OK)
}

func passes(t *testing.T, x *mooring.Mooring, client, ticks int) {
	t.Helper()
	for range ticks {
		answers(t, "Tick", x.Tick(client), api.OK)
	}
}

// settle delivers all messages, in order, as they come.
func settle(x *mooring.Mooring) {
	for x.Deliver(0) != api.ErrArg {
	}
}

func does(t *testing.T, x *mooring.Mooring, client, kind, lock, ttl int) {
	t.Helper()
	begins(t, x, client, kind, lock, ttl)
	settle(x)
}

type choice func(api.Message) bool

// of chooses the messages of a kind that go to or come from these acceptors (from
// or to all, if none is named).
func of(kind int, acceptors ...int) choice {
	return func(m api.Message) bool {
		acceptor := m.From
		if m.Kind == api.Prepare || m.Kind == api.Accept {
			acceptor = m.To
		}
		return m.Kind == kind && (len(acceptors) == 0 || slices.Contains(acceptors, acceptor))
	}
}

func anything(api.Message) bool { return true }

// takeEach calls take, which takes it from there, with the place of every chosen
// message that is on its way now.
func takeEach(x *mooring.Mooring, chosen choice, take func(int) api.Errno) {
	i := 0
	for _, m := range x.Net() {
		if chosen(m) {
			take(i)
		} else {
			i++
		}
	}
}

func deliver(x *mooring.Mooring, chosen choice) { takeEach(x, chosen, x.Deliver) }

// propose has what was begun promised by all, and the Accepts sent.
func propose(x *mooring.Mooring) {
	deliver(x, of(api.Prepare))
	deliver(x, of(api.Promise))
}

// settleLock delivers all messages of a lock, and those that come of them.
func settleLock(x *mooring.Mooring, lock int) {
	chosen := func(m api.Message) bool { return m.Lock == lock }
	for slices.ContainsFunc(x.Net(), chosen) {
		deliver(x, chosen)
	}
}

func drop(x *mooring.Mooring, chosen choice) { takeEach(x, chosen, x.Drop) }

// double copies every chosen message that is on its way now.
func double(x *mooring.Mooring, chosen choice) {
	for i, m := range x.Net() {
		if chosen(m) {
			x.Copy(i)
		}
	}
}

// prepares are the Prepares of an attempt.
func prepares(client, lock, ballot, acceptors int) []api.Message {
	var all []api.Message
	for to := range acceptors {
		all = append(all, api.Message{Kind: api.Prepare, From: client, To: to, Lock: lock, Ballot: ballot})
	}
	return all
}

// accept is an Accept of client 0.
func accept(to, lock, ballot, base int, v api.Value) api.Message {
	return api.Message{Kind: api.Accept, To: to, Lock: lock, Ballot: ballot, Base: base, Value: v}
}

func netIs(t *testing.T, x *mooring.Mooring, want ...api.Message) {
	t.Helper()
	if got := x.Net(); !slices.Equal(got, want) {
		t.Errorf("Net() = %+v\nwant %+v", got, want)
	}
}

func traceIs(t *testing.T, x *mooring.Mooring, from int, want ...api.Event) {
	t.Helper()
	if got := x.Trace(from); !slices.Equal(got, want) {
		t.Errorf("Trace(%d) = %+v\nwant %+v", from, got, want)
	}
}

// happened tells how many events there are.
func happened(x *mooring.Mooring) int { return len(x.Trace(0)) }

// endings tells all operations of a client that have ended.
func endings(x *mooring.Mooring, client int) []api.Event {
	return slices.DeleteFunc(x.Trace(0), func(e api.Event) bool {
		return e.Kind != api.Ended || e.Node != client
	})
}

// endIs tells how the last operation that has ended, of this client, ended.
func endIs(t *testing.T, x *mooring.Mooring, client, result, owner, token, ballot int) {
	t.Helper()
	all := endings(x, client)
	if len(all) == 0 {
		t.Fatalf("nothing of client %d has ended", client)
	}
	got := all[len(all)-1]
	want := api.Event{Kind: api.Ended, Node: client, Op: got.Op, Result: result, Owner: owner, Token: token, Ballot: ballot}
	if got != want {
		t.Errorf("the end is %+v\nwant %+v", got, want)
	}
}

func busyIs(t *testing.T, x *mooring.Mooring, client int, want bool) {
	t.Helper()
	if got := x.Busy(client); got != want {
		t.Errorf("Busy(%d) = %v", client, got)
	}
}

func holdIs(t *testing.T, x *mooring.Mooring, client, lock int, want bool) {
	t.Helper()
	if got := x.Holds(client, lock); got != want {
		t.Errorf("Holds(%d, %d) = %v", client, lock, got)
	}
}

// holdEnds tells that a hold lasts as long as this, by the client's clock.
func holdEnds(t *testing.T, x *mooring.Mooring, client, lock, ticks int) {
	t.Helper()
	for left := ticks; left > 0; left-- {
		if !x.Holds(client, lock) {
			t.Fatalf("Holds(%d, %d) = false, %d of %d ticks too early", client, lock, left, ticks)
		}
		passes(t, x, client, 1)
	}
	holdIs(t, x, client, lock, false)
}

func tableIs(t *testing.T, x *mooring.Mooring, acceptor int, want ...api.Row) {
	t.Helper()
	if got, e := x.Table(acceptor); e != api.OK || !slices.Equal(got, want) {
		t.Errorf("Table(%d) = %+v, %d\nwant %+v", acceptor, got, e, want)
	}
}

func logIs(t *testing.T, x *mooring.Mooring, acceptor int, want ...api.Row) {
	t.Helper()
	logIsText(t, x, acceptor, records(want...))
}

func records(rows ...api.Row) string {
	s := ""
	for _, r := range rows {
		s += mooring.Record(r)
	}
	return s
}

// logIsText tells the bytes of a log that may be torn.
func logIsText(t *testing.T, x *mooring.Mooring, acceptor int, want string) {
	t.Helper()
	if got, e := x.Log(acceptor); e != api.OK || got != want {
		t.Errorf("Log(%d) = %q, %d\nwant %q", acceptor, got, e, want)
	}
}

func fails(t *testing.T, x *mooring.Mooring, acceptor, steps, keep int) {
	t.Helper()
	answers(t, "Fail", x.Fail(acceptor, steps, keep), api.OK)
}

func starts(t *testing.T, x *mooring.Mooring, acceptor int) {
	t.Helper()
	answers(t, "Start", x.Start(acceptor), api.OK)
}

// goesDown and comesUp are events of an acceptor.
func goesDown(acceptor int) api.Event { return api.Event{Kind: api.Down, Node: acceptor} }
func comesUp(acceptor int) api.Event  { return api.Event{Kind: api.Up, Node: acceptor} }

func isDown(t *testing.T, x *mooring.Mooring, acceptor int) {
	t.Helper()
	if rows, e := x.Table(acceptor); rows != nil || e != api.ErrDown {
		t.Errorf("Table(%d) = %+v, %d, want that it is down", acceptor, rows, e)
	}
}

// view is all that can be seen of a mooring.
type view struct {
	net    []api.Message
	trace  []api.Event
	tables [5][]api.Row
	errors [5]api.Errno
	logs   [5]string
	busy   [4]bool
	holds  [4][4]bool
}

func look(x *mooring.Mooring) view {
	v := view{net: x.Net(), trace: x.Trace(0)}
	for i := range 5 {
		v.tables[i], v.errors[i] = x.Table(i)
		v.logs[i], _ = x.Log(i)
	}
	for i := range 4 {
		v.busy[i] = x.Busy(i)
		for lock := range 4 {
			v.holds[i][lock] = x.Holds(i, lock)
		}
	}
	return v
}

func (v view) is(w view) bool {
	for i := range v.tables {
		if !slices.Equal(v.tables[i], w.tables[i]) {
			return false
		}
	}
	return slices.Equal(v.net, w.net) && slices.Equal(v.trace, w.trace) &&
		v.errors == w.errors && v.logs == w.logs && v.busy == w.busy && v.holds == w.holds
}

// value is a value that a client has made.
func value(client, token, ttl, seq int) api.Value {
	return api.Value{Owner: client + 1, Token: token, Ttl: ttl, Seq: seq}
}

// accepted is the row of a lock behind the acceptance of a value.
func accepted(lock, ballot int, v api.Value) api.Row {
	return api.Row{Lock: lock, Promised: ballot, Accepted: ballot, Value: v}
}
