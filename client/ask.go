package client

import (
	"slices"

	"cryptex/api"
	"cryptex/model"
	"cryptex/vault"
	"cryptex/wire"
)

// The kinds of requests.
const (
	askBlob  = 1
	askWords = 2
	askHead  = 3
)

// ask makes a request; what is done with its reply is told by a call.
func (c *Client) ask(r wire.Request, use func(wire.Reply) (string, model.Answer)) (string, model.Answer) {
	b, err := wire.PutRequest(r)
	if err != api.OK {
		return answer(err)
	}
	c.then = func(reply string) (string, model.Answer) {
		r, err := wire.GetReply(reply)
		if err != api.OK {
			return c.close(api.ErrTampered)
		}
		return use(r)
	}
	return b, model.Answer{}
}

// close closes the client, for good.
func (c *Client) close(err api.Errno) (string, model.Answer) {
	c.closed = err
	return answer(err)
}

// wrong closes the client for a reply that must not be: was it so once?
func (c *Client) wrong(r wire.Reply, once bool) (string, model.Answer) {
	if _, old := c.heads[r.Head]; old || once {
		return c.close(api.ErrRolled)
	}
	return c.close(api.ErrTampered)
}

// current tells whether a reply is of the head, and the number, that are known.
func (c *Client) current(r wire.Reply) bool { return r.Head == c.head && r.N == c.n }

// send asks for a batch; what is known behind it is told by calls.
func (c *Client) send(ops []vault.Op, done, undone func()) (string, model.Answer) {
	head, err := vault.Next(c.head, ops)
	if err != api.OK {
		return answer(err)
	}
	b := &batch{head: head, undone: undone}
	b.done = func() {
		c.heads[c.head] = struct{}{}
		c.head = head
		c.n++
		done()
	}
	req, told := c.ask(wire.Request{Ops: ops}, func(r wire.Reply) (string, model.Answer) {
		if r.Err != api.OK || r.Head != head || r.N != c.n+1 {
			return c.wrong(r, r.Head == c.head)
		}
		b.done()
		return answer(api.OK)
	})
	c.asked = b
	return req, told
}

// blob asks for a document; what is done with it is told by a call.
func (c *Client) blob(at docAt, use func([]api.Node) (string, model.Answer)) (string, model.Answer) {
	now := c.docs[at]
	r := wire.Request{Kind: askBlob, Label: c.place(at, now.epoch).label}
	return c.ask(r, func(r wire.Reply) (string, model.Answer) {
		if c.current(r) && r.Err == api.OK && len(r.Boxes) == 1 {
			if v, ok := c.opened(at, now, r.Boxes[0]); ok {
				return use(v)
			}
		}
		return c.wrong(r, slices.ContainsFunc(r.Boxes, func(box string) bool { return c.was(at, now, box) }))
	})
}

// was tells whether a box is one that was a document's once, and is no more.
func (c *Client) was(at docAt, now written, box string) bool {
	return slices.ContainsFunc(c.past[at], func(w written) bool {
		_, ok := c.opened(at, w, box)
		return ok && w != now
	})
}

// resync asks for the head, and goes on with what it tells of a batch that was lost.
func (c *Client) resync() (string, model.Answer) {
	return c.ask(wire.Request{Kind: askHead}, func(r wire.Reply) (string, model.Answer) {
		switch {
		case c.open != nil && r.Head == c.open.head && r.N == c.n+1:
			c.open.done()
		case !c.current(r):
			return c.wrong(r, false)
		case c.open != nil:
			c.open.undone()
		}
		c.open, c.lost = nil, false
		return answer(api.OK)
	})
}
