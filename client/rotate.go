package client

import (
	"cmp"
	"maps"
	"slices"
	"strings"

	"cryptex/api"
	"cryptex/chain"
	"cryptex/model"
	"cryptex/vault"
)

// mostTaken is how many cells a step of a rotation takes out.
const mostTaken = 300

// rotate does a step of a rotation.
func (c *Client) rotate() (string, model.Answer) {
	if !c.rotating {
		c.rotating = true
		c.epoch++
	}
	if l := c.older(); len(l) > 0 {
		at := l[0]
		return c.blob(at, func(v []api.Node) (string, model.Answer) { return c.write(at, v, v) })
	}
	return c.clean()
}

// oldWords are the words of older epochs, in order.
func (c *Client) oldWords() []wordAt {
	l := slices.Collect(maps.Keys(c.words))
	l = slices.DeleteFunc(l, func(at wordAt) bool { return at.epoch == c.epoch })
	slices.SortFunc(l, func(a, b wordAt) int {
		return cmp.Or(cmp.Compare(a.epoch, b.epoch), strings.Compare(a.coll, b.coll), strings.Compare(a.word, b.word))
	})
	return l
}

// cut is a word without its last few cells, so that those that are left can be searched for.
func cut(w chain.Word, few int) chain.Word {
	counts := slices.Clone(w.Counts)
	for g := len(counts) - 1; g >= 0 && few > 0; g-- {
		n := min(few, counts[g])
		counts[g] -= n
		few -= n
	}
	return chain.Word{Counts: counts}
}

// clean asks for the batch that takes out cells of older epochs; where there are none the rotation is over.
func (c *Client) clean() (string, model.Answer) {
	var ops []vault.Op
	left := map[wordAt]chain.Word{}
	for _, at := range c.oldWords() {
		labels := c.cellLabels(at, c.words[at])
		few := min(len(labels), mostTaken-len(ops))
		for _, label := range labels[len(labels)-few:] {
			ops = append(ops, vault.Op{Kind: takeCell, Label: label})
		}
		left[at] = cut(c.words[at], few)
	}
	done := func() {
		for at, w := range left {
			c.words[at] = w
		}
		c.forget()
	}
	if len(ops) == 0 {
		done()
		return answer(api.OK)
	}
	return c.send(ops, done, func() {})
}

// forget forgets words of older epochs that have no cells; without any the rotation is over.
func (c *Client) forget() {
	for _, at := range c.oldWords() {
		if chain.Total(c.words[at]) == 0 {
			delete(c.words, at)
			delete(c.burnt, at)
		}
	}
	c.rotating = len(c.oldWords()) > 0
}
