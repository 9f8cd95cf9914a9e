package client

import (
	"slices"

	"mooring/api"
)

// follows works out, for what the client is doing, what follows a value: the next
// one, and how the operation ends when that is accepted.
func (c *Client) follows(v api.Value) (api.Value, ending) {
	switch c.doing.Kind {
	case api.Acquire:
		return c.acquire(v)
	case api.Renew:
		return c.renew(v)
	case api.Release:
		return c.release(v)
	}
	return v, ending{api.Told, v.Owner, v.Token}
}

func (c *Client) acquire(v api.Value) (api.Value, ending) {
	op, ballot := c.doing, c.doing.attempt.ballot
	switch {
	case op.isMine(v.Token):
		return v, ending{api.Granted, c.me(), v.Token}
	case op.isAboveMine(v.Token):
		// An attempt of this operation may have had the lock, and lost it since.
		return api.Value{}, ending{result: api.Unknown}
	case v.Owner == 0 || v.Owner == c.me() || c.mayTakeOver(v):
		return api.Value{Owner: c.me(), Token: ballot, Ttl: op.Ttl, Seq: 1}, ending{api.Granted, c.me(), ballot}
	}
	return v, ending{api.Held, v.Owner, v.Token}
}

func (c *Client) renew(v api.Value) (api.Value, ending) {
	if !c.owns(v) {
		return v, ending{result: api.NotOwner}
	}
	v.Ttl, v.Seq = c.doing.Ttl, min(v.Seq+1, api.MaxNumber)
	return v, ending{api.Granted, c.me(), v.Token}
}

func (c *Client) release(v api.Value) (api.Value, ending) {
	op := c.doing
	switch {
	case c.owns(v):
		return api.Value{Token: v.Token, Seq: op.attempt.ballot}, ending{api.Granted, c.me(), v.Token}
	case v.Owner == 0 && op.isMine(v.Seq):
		return v, ending{api.Granted, c.me(), v.Token}
	case len(op.mine) > 0 && v.Token != c.tokens[op.Lock]:
		// An attempt of this operation may have released the lock for another.
		return api.Value{}, ending{result: api.Unknown}
	}
	return v, ending{result: api.NotOwner}
}

// owns tells whether the lock is the client's, by the token that it was granted.
func (c *Client) owns(v api.Value) bool {
	token := c.tokens[c.doing.Lock]
	return v.Owner == c.me() && token != 0 && v.Token == token
}

// mayTakeOver tells whether the owner has been silent for so long that its hold
// is over by its own clock, too.
func (c *Client) mayTakeOver(v api.Value) bool {
	w := c.watches[c.doing.Lock]
	tenths := v.Ttl * (10 + c.config.Drift)
	return w.is(v) && c.doing.attempt.began >= w.since+(tenths+9)/10+2
}

// isMark tells whether a value shows that the attempt of the ballot has made it.
func (op *operation) isMark(v api.Value, ballot int) bool {
	switch op.Kind {
	case api.Acquire:
		return v.Token == ballot
	case api.Release:
		return v.Seq == ballot
	}
	return false
}

func (op *operation) isMine(ballot int) bool { return slices.Contains(op.mine, ballot) }

func (op *operation) isAboveMine(token int) bool {
	return slices.ContainsFunc(op.mine, func(ballot int) bool { return token > ballot })
}
