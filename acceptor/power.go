package acceptor

import (
	"mooring/api"
	"mooring/record"
)

// Fail lets power fail when so many more steps of the disk have been taken, or at
// once. Of what is not synced then, so many bytes stay.
func (a *Acceptor) Fail(steps, keep int) api.Errno {
	if a.state == down {
		return api.ErrDown
	}
	if steps == 0 {
		a.crash(keep)
		return api.OK
	}
	a.disk.Fail(steps, keep)
	return api.OK
}

// crash leaves nothing but what the disk keeps.
func (a *Acceptor) crash(keep int) {
	a.disk.Crash(keep)
	clear(a.table)
	a.state = down
	a.report(api.Event{Kind: api.Down, Node: a.number})
}

// Start starts an acceptor that is down or silent.
func (a *Acceptor) Start() api.Errno {
	if a.state == up {
		return api.ErrUp
	}
	if a.state == silent {
		a.crash(0)
	}
	a.state = up
	a.report(api.Event{Kind: api.Up, Node: a.number})
	a.heed(a.replay())
	return api.OK
}

// replay has the log's table again. A torn end of the log is compacted away: no
// record behind it would be read.
func (a *Acceptor) replay() error {
	log := a.Log()
	table, read := record.Replay(log)
	a.table = table
	if read < len(log) || a.isLong() {
		return a.compactLog()
	}
	return nil
}
