// Package acceptor is the acceptors: each answers messages by the rows that it
// has, and has them in a log on a disk, from which it starts again when its power
// has failed.
package acceptor

import (
	"errors"

	"mooring/api"
	"mooring/disk"
	"mooring/record"
)

// state is whether an acceptor acts on what comes.
type state int

const (
	up state = iota
	silent
	down
)

// Acceptor is one acceptor. Its table is gone while it is down.
type Acceptor struct {
	number  int
	compact int
	disk    *disk.Disk
	table   record.Table
	state   state
	report  func(api.Event)
}

// New makes the acceptor of a number, up and with an empty log. What happens at
// it is reported.
func New(c api.Config, number int, report func(api.Event)) *Acceptor {
	return &Acceptor{
		number:  number,
		compact: c.Compact,
		disk:    disk.New(c.Room, logFile),
		table:   record.Table{},
		report:  report,
	}
}

// Table tells its rows by locks in rising order.
func (a *Acceptor) Table() ([]api.Row, api.Errno) {
	if a.state == down {
		return nil, api.ErrDown
	}
	return a.table.Rows(), api.OK
}

// Log tells the bytes of its log.
func (a *Acceptor) Log() string { return a.disk.Read(logFile) }

// Take acts on a message, unless the acceptor is silent or down. It is the door
// of the acceptor: however deep inside power fails, the call ends here.
func (a *Acceptor) Take(m api.Message) (e api.Errno) {
	if a.state != up {
		return api.OK
	}
	defer func() {
		switch v := recover().(type) {
		case nil:
		case disk.Outage:
			a.crash(v.Keep)
			e = api.ErrPower
		default:
			panic(v)
		}
	}()
	a.heed(a.act(m))
	return api.OK
}

// heed makes the acceptor silent if what ended a call is an append that did not
// fit.
func (a *Acceptor) heed(err error) {
	var fault *disk.Fault
	if errors.Is(err, disk.ErrRoom) && errors.As(err, &fault) && fault.Step == disk.Appending {
		a.state = silent
	}
}

func (a *Acceptor) act(m api.Message) error {
	row, answer, stores := decide(m, a.row(m.Lock))
	if stores {
		if err := a.store(row); err != nil {
			return err
		}
	}
	a.send(answer, m)
	if stores && a.isLong() {
		return a.compactLog()
	}
	return nil
}

func (a *Acceptor) row(lock int) api.Row {
	r := a.table[lock]
	r.Lock = lock
	return r
}

// decide tells the row that follows r, the answer, and whether the row is to be
// stored: a Prepare that was promised already changes nothing.
func decide(m api.Message, r api.Row) (row api.Row, answer api.Message, stores bool) {
	if m.Ballot < r.Promised {
		return r, api.Message{Kind: api.Nack, Base: r.Promised}, false
	}
	if m.Kind == api.Prepare {
		stores = m.Ballot > r.Promised
		r.Promised = m.Ballot
		return r, api.Message{Kind: api.Promise, Base: r.Accepted, Value: r.Value}, stores
	}
	r.Promised, r.Accepted, r.Value = m.Ballot, m.Ballot, m.Value
	return r, api.Message{Kind: api.Accepted}, true
}

func (a *Acceptor) send(answer, to api.Message) {
	answer.From, answer.To = a.number, to.From
	answer.Lock, answer.Ballot = to.Lock, to.Ballot
	a.report(api.Event{Kind: api.Sent, Message: answer})
}
