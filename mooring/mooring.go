// Package mooring: locks that a few nodes agree on: see DOC.md.
package mooring

import (
	"mooring/api"
	"mooring/record"
)

// Check tells whether it is a configuration (P2).
func Check(c api.Config) api.Errno {
	if !isConfig(c) {
		return api.ErrArg
	}
	return api.OK
}

func isConfig(c api.Config) bool {
	return within(c.F, 1, 2) &&
		within(c.Clients, 1, api.MaxClients) &&
		within(c.Patience, 1, api.MaxPatience) &&
		within(c.Tries, 1, api.MaxTries) &&
		within(c.Drift, 0, 10) &&
		within(c.Compact, 2, api.MaxCompact) &&
		within(c.Room, api.MinRoom, api.MaxRoom)
}

func within(n, least, most int) bool { return least <= n && n <= most }

// Record tells the record of a row (P3).
func Record(r api.Row) string { return record.Of(r) }

// Replay tells the table of records (P3).
func Replay(s string) ([]api.Row, int) {
	table, n := record.Replay(s)
	return table.Rows(), n
}

// Mooring is acceptors, clients, and what is on its way between them.
type Mooring struct{}

// New makes one (P4).
func New(c api.Config) (*Mooring, api.Errno) { return nil, api.OK }

// Begin lets a client do something (P5).
func (x *Mooring) Begin(client, kind, lock, ttl int) api.Errno { return api.OK }

// Tick lets time go by at a client (P6).
func (x *Mooring) Tick(client int) api.Errno { return api.OK }

// Deliver delivers a message (P7).
func (x *Mooring) Deliver(i int) api.Errno { return api.OK }

// Drop loses a message (P7).
func (x *Mooring) Drop(i int) api.Errno { return api.OK }

// Copy doubles a message (P7).
func (x *Mooring) Copy(i int) api.Errno { return api.OK }

// Fail lets an acceptor's power fail (P8).
func (x *Mooring) Fail(acceptor, steps, keep int) api.Errno { return api.OK }

// Start starts an acceptor again (P8).
func (x *Mooring) Start(acceptor int) api.Errno { return api.OK }

// Lose loses a client (P9).
func (x *Mooring) Lose(client int) api.Errno { return api.OK }

// Return starts a client again (P9).
func (x *Mooring) Return(client int) api.Errno { return api.OK }

// Net tells what is on its way (P7).
func (x *Mooring) Net() []api.Message { return nil }

// Trace tells what has happened (P10).
func (x *Mooring) Trace(from int) []api.Event { return nil }

// Holds tells whether a client holds a lock (P6).
func (x *Mooring) Holds(client, lock int) bool { return false }

// Busy tells whether a client is doing something (P5).
func (x *Mooring) Busy(client int) bool { return false }

// Table tells what an acceptor has (P10).
func (x *Mooring) Table(acceptor int) ([]api.Row, api.Errno) { return nil, api.OK }

// Log tells the bytes of an acceptor's log (P10).
func (x *Mooring) Log(acceptor int) (string, api.Errno) { return "", api.OK }
