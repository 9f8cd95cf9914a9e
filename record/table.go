package record

import (
	"maps"
	"slices"

	"mooring/api"
)

// Table has, by its lock, the row that stands last in a log.
type Table map[int]api.Row

// Replay reads records from the front of s, as long as whole and right ones
// follow: their table, and how many bytes they are.
func Replay(s string) (Table, int) {
	t := Table{}
	n := 0
	for r, ok := first(s); ok; r, ok = first(s[n:]) {
		t[r.Lock] = r
		n += Size
	}
	return t, n
}

// Rows tells the rows by locks in rising order, as a new list.
func (t Table) Rows() []api.Row {
	rows := make([]api.Row, 0, len(t))
	for _, lock := range slices.Sorted(maps.Keys(t)) {
		rows = append(rows, t[lock])
	}
	return rows
}
