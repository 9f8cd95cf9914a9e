package acceptor

import (
	"strings"

	"mooring/api"
	"mooring/record"
)

const (
	logFile = "log"
	newFile = "new"
)

// store has a row in the table only when its record is synced: what is answered
// by the table must outlast a crash.
func (a *Acceptor) store(r api.Row) error {
	if err := a.disk.Append(logFile, record.Of(r)); err != nil {
		return err
	}
	a.disk.Sync(logFile)
	a.table[r.Lock] = r
	return nil
}

// isLong tells whether the log has more records than it may keep.
func (a *Acceptor) isLong() bool { return len(a.Log())/record.Size > a.compact }

// compactLog puts a log of the table's rows in the place of the log. The old one
// keeps its name until the new one is whole and synced.
func (a *Acceptor) compactLog() error {
	a.disk.Create(newFile)
	if err := a.disk.Append(newFile, a.tableRecords()); err != nil {
		return err
	}
	a.disk.Sync(newFile)
	a.disk.Rename(newFile, logFile)
	a.disk.SyncNames()
	return nil
}

func (a *Acceptor) tableRecords() string {
	var b strings.Builder
	for _, r := range a.table.Rows() {
		b.WriteString(record.Of(r))
	}
	return b.String()
}
