package client

import "mooring/api"

// How many ballots there are of a round, and of an incarnation in a round.
const (
	perRound       = 256
	perIncarnation = 4
)

// attempt is a round of an operation, under a ballot that no other round has.
type attempt struct {
	ballot, began int
	// awaited is the kind of answer that counts now, and answered who has given it.
	awaited  int
	answered map[int]struct{}
	base     int
	value    api.Value
	ending   ending
}

// beginAttempt begins an attempt, if there is a round left for it.
func (c *Client) beginAttempt() {
	if c.round >= api.MaxRound {
		c.end(ending{result: api.Exhausted}, api.Value{})
		return
	}
	c.round++
	c.doing.attempts++
	c.doing.attempt = attempt{
		ballot:   c.round*perRound + c.incarnation*perIncarnation + c.number,
		began:    c.clock,
		awaited:  api.Promise,
		answered: map[int]struct{}{},
	}
	c.sendAll(api.Message{Kind: api.Prepare})
}

// endAttempt is for an attempt that is over: there is another one, if there were
// fewer than may be.
func (c *Client) endAttempt() {
	if c.doing.attempts < c.config.Tries {
		c.beginAttempt()
		return
	}
	c.end(ending{result: api.Unknown}, api.Value{})
}

// sendAll sends a message of the attempt to all acceptors.
func (c *Client) sendAll(m api.Message) {
	m.From, m.Lock, m.Ballot = c.number, c.doing.Lock, c.doing.attempt.ballot
	for to := range 2*c.config.F + 1 {
		m.To = to
		c.report(api.Event{Kind: api.Sent, Message: m})
	}
}

// Take acts on a message, if it is of the attempt that there is.
func (c *Client) Take(m api.Message) {
	if !c.up() || c.doing == nil || m.Ballot != c.doing.attempt.ballot {
		return
	}
	switch m.Kind {
	case api.Nack:
		c.round = max(c.round, m.Base/perRound)
		c.endAttempt()
	case c.doing.attempt.awaited:
		c.count(m)
	}
}

// count counts an answer that is awaited, once of each acceptor.
func (c *Client) count(m api.Message) {
	a := &c.doing.attempt
	if _, ok := a.answered[m.From]; ok {
		return
	}
	a.answered[m.From] = struct{}{}
	if m.Base > a.base {
		a.base, a.value = m.Base, m.Value
	}
	if len(a.answered) <= c.config.F {
		return
	}
	if m.Kind == api.Promise {
		c.propose()
		return
	}
	c.end(a.ending, a.value)
}

// propose sends what follows, if that can be known.
func (c *Client) propose() {
	a := &c.doing.attempt
	next, e := c.follows(a.value)
	if e.result == api.Unknown {
		c.end(e, a.value)
		return
	}
	a.ending, a.awaited = e, api.Accepted
	clear(a.answered)
	if c.doing.isMark(next, a.ballot) {
		c.doing.mine = append(c.doing.mine, a.ballot)
	}
	c.sendAll(api.Message{Kind: api.Accept, Base: a.base, Value: next})
}
