// Package client is the clients: each does one operation at a time, by attempts
// under ballots of its own.
package client

import "mooring/api"

// Client is one client. All but its number and incarnation is gone when it is
// lost.
type Client struct {
	config      api.Config
	number      int
	incarnation int
	lost        chan struct{}
	report      func(api.Event)

	clock   int
	round   int
	tokens  map[int]int
	holds   map[int]int
	watches map[int]watch
	doing   *operation
}

// watch is what a client was told of a lock that another has, and when.
type watch struct {
	owner, token, seq int
	since             int
}

// New makes the client of a number, up. What happens at it is reported.
func New(c api.Config, number int, report func(api.Event)) *Client {
	return &Client{
		config:  c,
		number:  number,
		lost:    make(chan struct{}),
		report:  report,
		tokens:  map[int]int{},
		holds:   map[int]int{},
		watches: map[int]watch{},
	}
}

// me is the client as the owner of a lock.
func (c *Client) me() int { return c.number + 1 }

func (c *Client) up() bool {
	select {
	case <-c.lost:
		return false
	default:
		return true
	}
}

// Lose loses the client, with all that it has.
func (c *Client) Lose() api.Errno {
	if !c.up() {
		return api.ErrDown
	}
	close(c.lost)
	c.forget()
	c.report(api.Event{Kind: api.Down, Node: -1 - c.number})
	return api.OK
}

func (c *Client) forget() {
	c.clock, c.round, c.doing = 0, 0, nil
	clear(c.tokens)
	clear(c.holds)
	clear(c.watches)
}

// Return starts a lost client again. It does not know which ballots it has used,
// so it goes on in another incarnation.
func (c *Client) Return() api.Errno {
	if c.up() {
		return api.ErrUp
	}
	if c.incarnation == api.MaxInc {
		return api.ErrExhausted
	}
	c.incarnation++
	c.lost = make(chan struct{})
	c.report(api.Event{Kind: api.Up, Node: -1 - c.number})
	return api.OK
}

// Tick lets time go by.
func (c *Client) Tick() api.Errno {
	if !c.up() {
		return api.ErrDown
	}
	c.clock++
	if c.doing != nil && c.clock-c.doing.attempt.began >= c.config.Patience {
		c.endAttempt()
	}
	return api.OK
}

// Holds tells whether the client holds a lock.
func (c *Client) Holds(lock int) bool { return c.up() && c.holds[lock] > c.clock }

// Busy tells whether the client is doing something.
func (c *Client) Busy() bool { return c.up() && c.doing != nil }
