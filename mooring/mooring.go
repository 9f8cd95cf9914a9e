// Package mooring: locks that a few nodes agree on: see DOC.md.
package mooring

import (
	"slices"

	"mooring/acceptor"
	"mooring/api"
	"mooring/client"
	"mooring/record"
)

// Check tells whether it is a configuration (P2).
func Check(c api.Config) api.Errno {
	if !isConfig(c) {
		return api.ErrArg
	}
	return api.OK
}

func isConfig(c api.Config) bool {
	return within(c.F, 1, 2) &&
		within(c.Clients, 1, api.MaxClients) &&
		within(c.Patience, 1, api.MaxPatience) &&
		within(c.Tries, 1, api.MaxTries) &&
		within(c.Drift, 0, 10) &&
		within(c.Compact, 2, api.MaxCompact) &&
		within(c.Room, api.MinRoom, api.MaxRoom)
}

func within(n, least, most int) bool { return least <= n && n <= most }

// Record tells the record of a row (P3).
func Record(r api.Row) string { return record.Of(r) }

// Replay tells the table of records (P3).
func Replay(s string) ([]api.Row, int) {
	table, n := record.Replay(s)
	return table.Rows(), n
}

// Mooring is acceptors, clients, and what is on its way between them.
type Mooring struct {
	acceptors []*acceptor.Acceptor
	clients   []*client.Client
	net       []api.Message
	trace     []api.Event
}

// New makes one (P4).
func New(c api.Config) (*Mooring, api.Errno) {
	if !isConfig(c) {
		return nil, api.ErrArg
	}
	x := &Mooring{}
	for i := range 2*c.F + 1 {
		x.acceptors = append(x.acceptors, acceptor.New(c, i, x.happen))
	}
	for i := range c.Clients {
		x.clients = append(x.clients, client.New(c, i, x.happen))
	}
	return x, api.OK
}

// happen notes an event; a message that is sent is on its way then.
func (x *Mooring) happen(e api.Event) {
	x.trace = append(x.trace, e)
	if e.Kind == api.Sent {
		x.net = append(x.net, e.Message)
	}
}

func (x *Mooring) isClient(i int) bool   { return within(i, 0, len(x.clients)-1) }
func (x *Mooring) isAcceptor(i int) bool { return within(i, 0, len(x.acceptors)-1) }
func (x *Mooring) isOnItsWay(i int) bool { return within(i, 0, len(x.net)-1) }

// Begin lets a client do something (P5).
func (x *Mooring) Begin(client, kind, lock, ttl int) api.Errno {
	if !x.isClient(client) || !within(kind, api.Acquire, api.Query) || !within(lock, 0, api.MaxLocks-1) {
		return api.ErrArg
	}
	op := api.Op{Kind: kind, Lock: lock}
	if kind == api.Acquire || kind == api.Renew {
		if !within(ttl, 1, api.MaxTtl) {
			return api.ErrArg
		}
		op.Ttl = ttl
	}
	return x.clients[client].Begin(op)
}

// Tick lets time go by at a client (P6).
func (x *Mooring) Tick(client int) api.Errno {
	if !x.isClient(client) {
		return api.ErrArg
	}
	return x.clients[client].Tick()
}

// Deliver delivers a message (P7).
func (x *Mooring) Deliver(i int) api.Errno {
	if !x.isOnItsWay(i) {
		return api.ErrArg
	}
	m := x.net[i]
	x.remove(i)
	switch m.Kind {
	case api.Prepare, api.Accept:
		return x.acceptors[m.To].Take(m)
	default:
		x.clients[m.To].Take(m)
		return api.OK
	}
}

func (x *Mooring) remove(i int) { x.net = slices.Delete(x.net, i, i+1) }

// Drop loses a message (P7).
func (x *Mooring) Drop(i int) api.Errno {
	if !x.isOnItsWay(i) {
		return api.ErrArg
	}
	x.remove(i)
	return api.OK
}

// Copy doubles a message (P7).
func (x *Mooring) Copy(i int) api.Errno {
	if !x.isOnItsWay(i) {
		return api.ErrArg
	}
	x.net = append(x.net, x.net[i])
	return api.OK
}

// Fail lets an acceptor's power fail (P8).
func (x *Mooring) Fail(acceptor, steps, keep int) api.Errno {
	if !x.isAcceptor(acceptor) || steps < 0 || keep < 0 {
		return api.ErrArg
	}
	return x.acceptors[acceptor].Fail(steps, keep)
}

// Start starts an acceptor again (P8).
func (x *Mooring) Start(acceptor int) api.Errno {
	if !x.isAcceptor(acceptor) {
		return api.ErrArg
	}
	return x.acceptors[acceptor].Start()
}

// Lose loses a client (P9).
func (x *Mooring) Lose(client int) api.Errno {
	if !x.isClient(client) {
		return api.ErrArg
	}
	return x.clients[client].Lose()
}

// Return starts a client again (P9).
func (x *Mooring) Return(client int) api.Errno {
	if !x.isClient(client) {
		return api.ErrArg
	}
	return x.clients[client].Return()
}

// Net tells what is on its way (P7).
func (x *Mooring) Net() []api.Message { return slices.Clone(x.net) }

// Trace tells what has happened (P10).
func (x *Mooring) Trace(from int) []api.Event {
	return slices.Clone(x.trace[min(max(from, 0), len(x.trace)):])
}

// Holds tells whether a client holds a lock (P6).
func (x *Mooring) Holds(client, lock int) bool {
	return x.isClient(client) && x.clients[client].Holds(lock)
}

// Busy tells whether a client is doing something (P5).
func (x *Mooring) Busy(client int) bool {
	return x.isClient(client) && x.clients[client].Busy()
}

// Table tells what an acceptor has (P10).
func (x *Mooring) Table(acceptor int) ([]api.Row, api.Errno) {
	if !x.isAcceptor(acceptor) {
		return nil, api.ErrArg
	}
	return x.acceptors[acceptor].Table()
}

// Log tells the bytes of an acceptor's log (P10).
func (x *Mooring) Log(acceptor int) (string, api.Errno) {
	if !x.isAcceptor(acceptor) {
		return "", api.ErrArg
	}
	return x.acceptors[acceptor].Log(), api.OK
}
