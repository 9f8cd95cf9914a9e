package mooring_test

import (
	"math"
	"strings"
	"testing"

	"mooring/api"
	"mooring/mooring"
)

// zeros is so many noughts, as a text.
func zeros(n int) string { return strings.Repeat("\x00", n) }

// sealed is s with its sum behind it.
func sealed(s string) string {
	n := 0
	for i := range len(s) {
		n += (i + 1) * int(s[i])
	}
	n %= 65536
	return s + string([]byte{byte(n % 256), byte(n / 256)})
}

// full has another byte at each place where a row has one.
var full = api.Row{
	Lock:     2,
	Promised: 0x04030201,
	Accepted: 0x08070605,
	Value:    api.Value{Owner: 3, Token: 0x0d0c0b0a, Ttl: 0x11100f0e, Seq: 0x15141312},
}

const fullBody = "R\x02" + "\x01\x02\x03\x04" + "\x05\x06\x07\x08" + "\x03" + "\x0a\x0b\x0c\x0d" + "\x0e\x0f\x10\x11" + "\x12\x13\x14\x15"

type rowField struct {
	name  string
	field func(*api.Row) *int
	most  int
}

var rowFields = []rowField{
	{"Lock", func(r *api.Row) *int { return &r.Lock }, 3},
	{"Promised", func(r *api.Row) *int { return &r.Promised }, 2147483647},
	{"Accepted", func(r *api.Row) *int { return &r.Accepted }, 2147483647},
	{"Owner", func(r *api.Row) *int { return &r.Value.Owner }, 4},
	{"Token", func(r *api.Row) *int { return &r.Value.Token }, 2147483647},
	{"Ttl", func(r *api.Row) *int { return &r.Value.Ttl }, 2147483647},
	{"Seq", func(r *api.Row) *int { return &r.Value.Seq }, 2147483647},
}

func recordIs(t *testing.T, r api.Row, want string) {
	t.Helper()
	if s := mooring.Record(r); s != want {
		t.Errorf("Record(%+v) = %q, want %q", r, s, want)
	}
}

func TestRecordBytes(t *testing.T) {
	top := "\xff\xff\xff\x7f"
	greatest := api.Row{Lock: 3, Promised: 2147483647, Accepted: 2147483647, Value: api.Value{Owner: 4, Token: 2147483647, Ttl: 2147483647, Seq: 2147483647}}
	for _, c := range []struct {
		row  api.Row
		want string
	}{
		{api.Row{Promised: 256}, "R\x00\x00\x01\x00\x00" + zeros(17) + "\x56\x00"},
		{api.Row{}, "R" + zeros(22) + "\x52\x00"},
		{full, sealed(fullBody)},
		{greatest, sealed("R\x03" + top + top + "\x04" + top + top + top)},
	} {
		recordIs(t, c.row, c.want)
	}
}

func TestRecordAtEachBound(t *testing.T) {
	for _, f := range rowFields {
		for _, r := range []api.Row{{}, full} {
			for _, n := range []int{0, 1, f.most - 1, f.most} {
				*f.field(&r) = n
				s := mooring.Record(r)
				if len(s) != 25 || s != sealed(s[:23]) {
					t.Fatalf("Record(%+v) = %q: no record, or a wrong sum", r, s)
				}
				replayIs(t, s, []api.Row{r}, 25)
			}
		}
	}
}

func TestRecordBeyondEachBound(t *testing.T) {
	for _, f := range rowFields {
		for _, r := range []api.Row{{}, full} {
			for _, n := range []int{-1, f.most + 1, -f.most - 1, 256, 1 << 31, 1 << 32, 1<<32 + 1, -1 << 32, math.MinInt, math.MaxInt} {
				if 0 <= n && n <= f.most {
					continue
				}
				*f.field(&r) = n
				recordIs(t, r, "")
			}
		}
	}
}

func TestRecordOfManyWrongFields(t *testing.T) {
	for i, a := range rowFields {
		for _, b := range rowFields[:i] {
			r := full
			*a.field(&r) = -1
			*b.field(&r) = b.most + 1
			recordIs(t, r, "")
		}
	}
}
