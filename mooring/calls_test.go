package mooring_test

import (
	"math"
	"slices"
	"strings"
	"testing"

	"mooring/api"
	"mooring/mooring"
)

var oddNumbers = []int{math.MinInt, math.MinInt + 1, -1 << 32, math.MinInt32, -257, -1, 0, 1, 255, 256, math.MaxInt32, 1 << 31, 1 << 32, math.MaxInt - 1, math.MaxInt}

func TestCallsEndAtAllNumbers(t *testing.T) {
	for _, n := range oddNumbers {
		for _, b := range bounds {
			c := configs()[2]
			*b.field(&c) = n
			mooring.Check(c)
		}
		for _, f := range rowFields {
			r := full
			*f.field(&r) = n
			if s := mooring.Record(r); len(s) != 0 && len(s) != 25 {
				t.Errorf("Record(%+v) has %d bytes", r, len(s))
			}
		}
		checkAnswers(t, api.Config{F: n, Clients: n, Patience: n, Tries: n, Drift: n, Compact: n, Room: n}, api.ErrArg)
		mooring.Record(api.Row{Lock: n, Promised: n, Accepted: n, Value: api.Value{Owner: n, Token: n, Ttl: n, Seq: n}})
	}
}

func TestReplayEndsAtTextsOfAnyLength(t *testing.T) {
	for length := range 130 {
		for c := range 256 {
			replayIs(t, strings.Repeat(string([]byte{byte(c)}), length), nil, 0)
		}
	}
	s := sealed(fullBody)
	replayIs(t, strings.Repeat(s, 200000), []api.Row{full}, 5000000)
	replayIs(t, strings.Repeat(s, 200000)+s[:24], []api.Row{full}, 5000000)
	replayIs(t, strings.Repeat("R", 5000000), nil, 0)
	replayIs(t, zeros(5000001), nil, 0)
}

func TestReplayOfTornAndMixedTexts(t *testing.T) {
	ahead, _ := whole()
	n := uint32(1)
	for range 2000 {
		b := []byte(strings.Repeat(ahead, 2))
		for range n % 4 {
			n = n*1664525 + 1013904223
			b[n>>8%uint32(len(b))] = byte(n >> 24)
		}
		n = n*1664525 + 1013904223
		s := string(b[:n>>8%uint32(len(b)+1)])
		rows, bytes := mooring.Replay(s)
		want, again := mooring.Replay(s[:bytes])
		if bytes%25 != 0 || bytes > len(s) || again != bytes || !slices.Equal(rows, want) {
			t.Fatalf("Replay(%q) = %+v, %d; of these bytes alone %+v, %d", s, rows, bytes, want, again)
		}
	}
}

// scribble writes into a list and its spare room.
func scribble(rows []api.Row) {
	rows = rows[:cap(rows)]
	for i := range rows {
		rows[i] = api.Row{Lock: -1, Promised: -1, Accepted: -1, Value: api.Value{Owner: -1, Token: -1, Ttl: -1, Seq: -1}}
	}
}

func TestReplayTellsNewMemory(t *testing.T) {
	s, want := whole()
	for _, text := range []string{s, "", s[:30], strings.Repeat(s, 10)} {
		first, n := mooring.Replay(text)
		second, _ := mooring.Replay(text)
		kept := slices.Clone(second[:cap(second)])
		scribble(first)
		if !slices.Equal(second[:cap(second)], kept) {
			t.Errorf("Replay: what is written into one list, or its spare room, is seen in another")
		}
		replayIs(t, text, second, n)
		_ = append(first, api.Row{Lock: 77})
		replayIs(t, text, second, n)
	}
	replayIs(t, s, want, 50)
}

func TestLaterCallsLeaveListsAlone(t *testing.T) {
	s, want := whole()
	rows, _ := mooring.Replay(s)
	room := rows[:cap(rows)]
	kept := slices.Clone(room)
	for range 20 {
		mooring.Replay(mooring.Record(api.Row{Lock: 2, Promised: 7}) + mooring.Record(api.Row{Lock: 0, Promised: 8}))
		mooring.Replay(strings.Repeat(s, 3))
		mooring.Replay("")
	}
	if !slices.Equal(rows, want) || !slices.Equal(room, kept) {
		t.Errorf("a list has changed to %+v, was %+v", room, kept)
	}
}

func TestTheSameGivesTheSame(t *testing.T) {
	s, want := whole()
	for range 20 {
		replayIs(t, s, want, 50)
		replayIs(t, "x"+s, nil, 0)
		recordIs(t, full, sealed(fullBody))
		recordIs(t, api.Row{Lock: 4}, "")
		checkAnswers(t, configs()[0], api.OK)
		checkAnswers(t, api.Config{}, api.ErrArg)
	}
}
