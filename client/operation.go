package client

import "mooring/api"

// operation is what a client is doing.
type operation struct {
	api.Op
	began    int
	attempts int
	attempt  attempt
	mine     []int
}

// ending is how an operation ends, if the next value of its attempt is accepted.
type ending struct {
	result, owner, token int
}

// Begin begins an operation, and its first attempt.
func (c *Client) Begin(op api.Op) api.Errno {
	if !c.up() {
		return api.ErrDown
	}
	if c.doing != nil {
		return api.ErrBusy
	}
	c.doing = &operation{Op: op, began: c.clock}
	c.report(api.Event{Kind: api.Began, Node: c.number, Op: op})
	c.cutHold(op)
	c.beginAttempt()
	return api.OK
}

// cutHold ends or shortens a hold: from now on what the operation asks for may
// be accepted, whether the client hears of it or not.
func (c *Client) cutHold(op api.Op) {
	switch op.Kind {
	case api.Release:
		delete(c.holds, op.Lock)
	case api.Acquire, api.Renew:
		if hold, ok := c.holds[op.Lock]; ok {
			c.holds[op.Lock] = min(hold, c.clock+op.Ttl)
		}
	}
}

// end ends what the client is doing; v is the value that it was told.
func (c *Client) end(e ending, v api.Value) {
	op := c.doing
	c.doing = nil
	switch e.result {
	case api.Granted:
		c.granted(op, e.token)
	case api.NotOwner:
		c.disown(op.Lock)
	case api.Held, api.Told:
		c.watchFor(op.Lock, v)
	}
	c.report(api.Event{
		Kind:   api.Ended,
		Node:   c.number,
		Op:     op.Op,
		Result: e.result,
		Owner:  e.owner,
		Token:  e.token,
		Ballot: op.attempt.ballot,
	})
}

func (c *Client) granted(op *operation, token int) {
	if op.Kind == api.Release {
		c.disown(op.Lock)
		return
	}
	c.tokens[op.Lock] = token
	c.holds[op.Lock] = op.began + op.Ttl
}

func (c *Client) disown(lock int) {
	delete(c.tokens, lock)
	delete(c.holds, lock)
}

// watchFor notes since when a lock of another has been as it is. A watch of the
// same stays: the owner has been silent since then.
func (c *Client) watchFor(lock int, v api.Value) {
	if v.Owner == 0 || v.Owner == c.me() || c.watches[lock].is(v) {
		return
	}
	c.watches[lock] = watch{owner: v.Owner, token: v.Token, seq: v.Seq, since: c.clock}
}

func (w watch) is(v api.Value) bool {
	return w.owner == v.Owner && w.token == v.Token && w.seq == v.Seq
}
