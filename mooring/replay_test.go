package mooring_test

import (
	"slices"
	"strings"
	"testing"

	"mooring/api"
	"mooring/mooring"
)

func replayIs(t *testing.T, s string, want []api.Row, bytes int) {
	t.Helper()
	rows, n := mooring.Replay(s)
	if n != bytes || !slices.Equal(rows, want) {
		if len(s) > 200 {
			s = s[:200] + ".."
		}
		t.Errorf("Replay(%q) = %+v, %d, want %+v, %d", s, rows, n, want, bytes)
	}
}

// whole are some whole records, and the table of them.
func whole() (string, []api.Row) {
	other := api.Row{Lock: 1, Promised: 260, Accepted: 256, Value: api.Value{Owner: 1, Token: 256, Ttl: 10, Seq: 1}}
	return mooring.Record(full) + mooring.Record(other), []api.Row{other, full}
}

// stopsAt: reading ends where tail begins, whatever whole ones stand ahead of it or behind it.
func stopsAt(t *testing.T, tail string) {
	t.Helper()
	ahead, rows := whole()
	behind := mooring.Record(api.Row{Lock: 0, Promised: 999})
	replayIs(t, tail, nil, 0)
	replayIs(t, tail+behind, nil, 0)
	replayIs(t, ahead+tail, rows, len(ahead))
	replayIs(t, ahead+tail+behind, rows, len(ahead))
}

func TestReplayOfTheExample(t *testing.T) {
	row := api.Row{Promised: 256}
	s := "R\x00\x00\x01\x00\x00" + zeros(17) + "\x56\x00"
	replayIs(t, s, []api.Row{row}, 25)
	replayIs(t, s+s, []api.Row{row}, 50)
	replayIs(t, s[:24], nil, 0)
}

func TestReplayReadsEachField(t *testing.T) {
	replayIs(t, sealed(fullBody), []api.Row{full}, 25)
}

func TestReplayOfNoBytes(t *testing.T) {
	replayIs(t, "", nil, 0)
}

func TestReplayOfACutRecord(t *testing.T) {
	ahead, rows := whole()
	s := sealed(fullBody)
	for n := range s {
		replayIs(t, s[:n], nil, 0)
		replayIs(t, ahead+s[:n], rows, len(ahead))
	}
	for n := 1; n < len(s); n++ {
		stopsAt(t, s[n:])
	}
}

func TestReplayOfAWrongSum(t *testing.T) {
	s := sealed(fullBody)
	for i := range s {
		for _, by := range []byte{1, 16, 128, 255} {
			b := []byte(s)
			b[i] += by
			stopsAt(t, string(b))
		}
	}
	for i := 1; i < len(s); i++ {
		b := []byte(s)
		b[i-1], b[i] = b[i], b[i-1]
		stopsAt(t, string(b))
	}
}

func TestReplayOfAnotherFirstByte(t *testing.T) {
	for c := range 256 {
		if c != 'R' {
			stopsAt(t, sealed(string([]byte{byte(c)})+fullBody[1:]))
		}
	}
}

func TestReplayOfRowsThatCannotBeWritten(t *testing.T) {
	for n := 4; n < 256; n++ {
		stopsAt(t, sealed("R"+string([]byte{byte(n)})+fullBody[2:]))
	}
	for n := 5; n < 256; n++ {
		stopsAt(t, sealed(fullBody[:10]+string([]byte{byte(n)})+fullBody[11:]))
	}
	for _, at := range []int{2, 6, 11, 15, 19} {
		for _, number := range []string{"\x00\x00\x00\x80", "\xff\xff\xff\xff", "\xff\xff\xff\x80"} {
			stopsAt(t, sealed(fullBody[:at]+number+fullBody[at+4:]))
		}
	}
}

func TestReplayOfNoRecordsAtAll(t *testing.T) {
	for _, s := range []string{"R", "\x00", "log", zeros(25), zeros(100), strings.Repeat("R", 25), strings.Repeat("R", 100), strings.Repeat("\xff", 50), "\n" + sealed(fullBody)} {
		stopsAt(t, s)
	}
}

func TestReplayTellsLocksInRisingOrder(t *testing.T) {
	rows := []api.Row{{Lock: 0, Promised: 4}, {Lock: 1, Promised: 3}, {Lock: 2, Promised: 2}, {Lock: 3, Promised: 1}}
	for _, order := range [][]int{{0, 1, 2, 3}, {3, 2, 1, 0}, {2, 0, 3, 1}, {1, 3, 0, 2}} {
		s := ""
		for _, lock := range order {
			s += mooring.Record(rows[lock])
		}
		for range 50 {
			replayIs(t, s, rows, 100)
		}
	}
	replayIs(t, mooring.Record(rows[3])+mooring.Record(rows[1]), []api.Row{rows[1], rows[3]}, 50)
}

func TestReplayKeepsTheRowThatStandsLast(t *testing.T) {
	great := api.Row{Lock: 1, Promised: 900, Accepted: 900, Value: api.Value{Owner: 2, Token: 900, Ttl: 9, Seq: 9}}
	small := api.Row{Lock: 1, Promised: 300, Accepted: 256}
	other := api.Row{Lock: 0, Promised: 500}
	g, s, o := mooring.Record(great), mooring.Record(small), mooring.Record(other)
	replayIs(t, g+s, []api.Row{small}, 50)
	replayIs(t, s+g, []api.Row{great}, 50)
	replayIs(t, g+o+s, []api.Row{other, small}, 75)
	replayIs(t, s+o+g+o, []api.Row{other, great}, 100)
	replayIs(t, g+o+mooring.Record(api.Row{Lock: 1}), []api.Row{other, {Lock: 1}}, 75)
	replayIs(t, g+s+g[:24], []api.Row{small}, 50)
}
