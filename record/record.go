// Package record writes rows as records, and reads records back into tables.
package record

import "mooring/api"

// Size is how many bytes a record has.
const Size = 25

// The owner of a lock is a client and one, or 0: nobody.
const maxOwner = api.MaxClients

// Of tells the record of a row, or the empty text if the row cannot be written.
func Of(r api.Row) string {
	if !writable(r) {
		return ""
	}
	b := make([]byte, 0, Size)
	b = append(b, 'R', byte(r.Lock))
	b = appendNumber(b, r.Promised)
	b = appendNumber(b, r.Accepted)
	b = append(b, byte(r.Value.Owner))
	b = appendNumber(b, r.Value.Token)
	b = appendNumber(b, r.Value.Ttl)
	b = appendNumber(b, r.Value.Seq)
	n := sum(b)
	return string(append(b, byte(n), byte(n>>8)))
}

func writable(r api.Row) bool {
	v := r.Value
	return 0 <= r.Lock && r.Lock < api.MaxLocks &&
		0 <= v.Owner && v.Owner <= maxOwner &&
		0 <= min(r.Promised, r.Accepted, v.Token, v.Ttl, v.Seq) &&
		max(r.Promised, r.Accepted, v.Token, v.Ttl, v.Seq) <= api.MaxNumber
}

func appendNumber(b []byte, n int) []byte {
	return append(b, byte(n), byte(n>>8), byte(n>>16), byte(n>>24))
}

func number(s string) int {
	return int(s[0]) | int(s[1])<<8 | int(s[2])<<16 | int(s[3])<<24
}

func sum(b []byte) uint16 {
	n := uint16(0)
	for i, c := range b {
		n += uint16(i+1) * uint16(c)
	}
	return n
}

// first tells the row of the record that s begins with, if it begins with one.
func first(s string) (api.Row, bool) {
	if len(s) < Size {
		return api.Row{}, false
	}
	r := api.Row{
		Lock:     int(s[1]),
		Promised: number(s[2:]),
		Accepted: number(s[6:]),
		Value: api.Value{
			Owner: int(s[10]),
			Token: number(s[11:]),
			Ttl:   number(s[15:]),
			Seq:   number(s[19:]),
		},
	}
	// A row has one record only: with another beginning, another sum, or a row
	// that cannot be written, the bytes are not that one.
	if Of(r) != s[:Size] {
		return api.Row{}, false
	}
	return r, true
}
