package mooring_test

import (
	"math"
	"testing"

	"mooring/api"
	"mooring/mooring"
)

type bound struct {
	name        string
	field       func(*api.Config) *int
	least, most int
}

var bounds = []bound{
	{"F", func(c *api.Config) *int { return &c.F }, 1, 2},
	{"Clients", func(c *api.Config) *int { return &c.Clients }, 1, 4},
	{"Patience", func(c *api.Config) *int { return &c.Patience }, 1, 20},
	{"Tries", func(c *api.Config) *int { return &c.Tries }, 1, 8},
	{"Drift", func(c *api.Config) *int { return &c.Drift }, 0, 10},
	{"Compact", func(c *api.Config) *int { return &c.Compact }, 2, 16},
	{"Room", func(c *api.Config) *int { return &c.Room }, 100, 2000},
}

// configs: one at all its lower bounds, one at all its upper ones, one between.
func configs() []api.Config {
	var least, most api.Config
	for _, b := range bounds {
		*b.field(&least) = b.least
		*b.field(&most) = b.most
	}
	between := api.Config{F: 1, Clients: 2, Patience: 5, Tries: 3, Drift: 2, Compact: 6, Room: 500}
	return []api.Config{least, most, between}
}

func checkAnswers(t *testing.T, c api.Config, want api.Errno) {
	t.Helper()
	if e := mooring.Check(c); e != want {
		t.Errorf("Check(%+v) = %d, want %d", c, e, want)
	}
}

func TestCheckTakesConfigurations(t *testing.T) {
	for _, c := range configs() {
		checkAnswers(t, c, api.OK)
	}
}

func TestCheckAtEachBound(t *testing.T) {
	for _, b := range bounds {
		for _, c := range configs() {
			for _, n := range []int{b.least, b.least + 1, b.most - 1, b.most} {
				*b.field(&c) = n
				checkAnswers(t, c, api.OK)
			}
		}
	}
}

func TestCheckBeyondEachBound(t *testing.T) {
	for _, b := range bounds {
		for _, c := range configs() {
			for _, n := range []int{b.least - 1, b.most + 1, -b.most, math.MinInt, math.MaxInt, b.least + 1<<32, b.least - 1<<32} {
				*b.field(&c) = n
				checkAnswers(t, c, api.ErrArg)
			}
		}
	}
}

func TestCheckRefusesWhenAllIsWrong(t *testing.T) {
	checkAnswers(t, api.Config{}, api.ErrArg)
	for _, n := range []int{math.MinInt, -1, 0, math.MaxInt} {
		checkAnswers(t, api.Config{F: n, Clients: n, Patience: n, Tries: n, Drift: n, Compact: n, Room: n}, api.ErrArg)
	}
}

func TestCheckOfManyWrongFields(t *testing.T) {
	for i, a := range bounds {
		for _, b := range bounds[:i] {
			c := configs()[2]
			*a.field(&c) = a.least - 1
			*b.field(&c) = b.most + 1
			checkAnswers(t, c, api.ErrArg)
		}
	}
}
