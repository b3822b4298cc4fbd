package client

import (
	"slices"

	"cryptex/api"
	"cryptex/chain"
	"cryptex/code"
	"cryptex/keys"
	"cryptex/octet"
	"cryptex/pad"
)

// place is where a blob lies, and the key that its box is sealed with.
type place struct{ label, key string }

// collKey is a collection's key in an epoch.
func (c *Client) collKey(epoch int, name string) string {
	return c.h.Mac(c.h.Mac(c.root, "epoch"+octet.Big(uint64(epoch), 8)), "coll"+name)
}

// wordKey is a word's key.
func (c *Client) wordKey(at wordAt) string {
	return c.h.Mac(c.collKey(at.epoch, at.coll), "word"+at.word)
}

// place is where a document's blob of an epoch lies.
func (c *Client) place(at docAt, epoch int) place {
	own := c.h.Mac(c.collKey(epoch, at.coll), "blob"+at.id)
	label := c.h.Mac(own, "label")
	return place{label, c.h.Mac(own, "box")}
}

// nonce is a version's nonce.
func (w written) nonce() string { return keys.Nonce(uint64(w.version)) }

// sealed is the box of a document's version, and its label.
func (c *Client) sealed(at docAt, w written, v []api.Node) (label, box string, err api.Errno) {
	bytes, err := code.Put(v)
	if err != api.OK {
		return "", "", err
	}
	padded, err := pad.Pad(bytes)
	if err != api.OK {
		return "", "", err
	}
	p := c.place(at, w.epoch)
	return p.label, c.h.Seal(p.key, w.nonce(), p.label, padded), api.OK
}

// opened is the document in a box, if it is that of a version.
func (c *Client) opened(at docAt, w written, box string) ([]api.Node, bool) {
	p := c.place(at, w.epoch)
	padded, ok := c.h.Open(p.key, w.nonce(), p.label, box)
	if !ok {
		return nil, false
	}
	bytes, err := pad.Unpad(padded)
	if err != api.OK {
		return nil, false
	}
	v, err := code.Get(bytes)
	return v, err == api.OK
}

// cellLabels are the labels of a word's cells, in order.
func (c *Client) cellLabels(at wordAt, w chain.Word) []string {
	tokens, _ := chain.Tokens(c.h, c.wordKey(at), w)
	var out []string
	for _, t := range tokens {
		labels, _ := chain.Walk(c.h, t)
		out = append(out, labels...)
	}
	return out
}

// Labels are those of all blobs, and of all cells, that the server has by what was done.
func (c *Client) Labels() ([]string, []string) {
	var blobs, cells []string
	for at, w := range c.docs {
		blobs = append(blobs, c.place(at, w.epoch).label)
	}
	for at, w := range c.words {
		if chain.Total(w) > 0 {
			cells = append(cells, c.cellLabels(at, w)...)
		}
	}
	slices.Sort(blobs)
	slices.Sort(cells)
	return blobs, cells
}
