package client

import (
	"cmp"
	"slices"

	"cryptex/api"
	"cryptex/chain"
	"cryptex/model"
	"cryptex/term"
	"cryptex/vault"
)

// The kinds of ops.
const (
	putBlob  = 0
	takeBlob = 1
	putCell  = 2
	takeCell = 3
)

const (
	mostOps         = 400 // of a batch
	mostCells       = 200 // of a generation
	mostGenerations = 20
)

// another is a word in another generation: what was asked for in the current one must not be asked for again.
func another(w chain.Word) chain.Word {
	counts := slices.Clone(w.Counts)
	if len(counts) == 0 {
		counts = []int{0}
	}
	return chain.Word{Counts: append(counts, 0)}
}

// space is how many cells the current generation has room for.
func space(w chain.Word) int {
	if len(w.Counts) == 0 {
		return mostCells
	}
	return mostCells - w.Counts[len(w.Counts)-1]
}

// word is a word as the next cell is added to it.
func (c *Client) word(at wordAt) chain.Word {
	w := c.words[at]
	if space(w) == 0 {
		return chain.Searched(w)
	}
	return w
}

// sequel are the cells that tell one thing more of a word. What the server may have seen in their places stands there again, for no other box must have its nonce, and behind it what takes it back.
func (c *Client) sequel(at wordAt, last cell) []cell {
	l := slices.Clone(c.burnt[at])
	for i, x := range c.burnt[at] {
		same := func(y cell) bool { return y.id == x.id }
		first := c.burnt[at][slices.IndexFunc(c.burnt[at], same)]
		if !slices.ContainsFunc(c.burnt[at][i+1:], same) && first.gone == x.gone {
			l = append(l, cell{!x.gone, x.id})
		}
	}
	return append(l, last)
}

// writing is a batch that writes a document, on its way.
type writing struct {
	c    *Client
	at   docAt
	ops  []vault.Op
	next written               // the version that is put
	from map[wordAt]chain.Word // the words ahead of it
	to   map[wordAt]chain.Word // and behind
	told map[wordAt][]cell     // and what is told of them
}

// cells adds to each of some words what tells that the document has it, or has it no more.
func (w *writing) cells(words []string, gone bool) api.Errno {
	for _, word := range words {
		at := wordAt{w.c.epoch, w.at.coll, word}
		x := w.c.word(at)
		w.from[at], w.told[at] = x, w.c.sequel(at, cell{gone, w.at.id})
		for _, y := range w.told[at] {
			after, box, err := chain.Add(w.c.h, w.c.wordKey(at), x, y.gone, y.id)
			if err != api.OK {
				return err
			}
			x = after
			w.ops = append(w.ops, vault.Op{Kind: putCell, Label: box.Label, Box: box.Box})
		}
		w.to[at] = x
	}
	return api.OK
}

// take takes out the blob of an epoch.
func (w *writing) take(epoch int) {
	w.ops = append(w.ops, vault.Op{Kind: takeBlob, Label: w.c.place(w.at, epoch).label})
}

// put puts a new version of the document.
func (w *writing) put(v []api.Node) api.Errno {
	w.next = written{w.c.epoch, w.c.versions[w.at]}
	label, box, err := w.c.sealed(w.at, w.next, v)
	if err != api.OK {
		return err
	}
	w.c.versions[w.at]++
	w.ops = append(w.ops, vault.Op{Kind: putBlob, Label: label, Box: box})
	return api.OK
}

// done keeps what is known behind the batch.
func (w *writing) done(puts bool) {
	for at, x := range w.to {
		w.c.words[at] = x
		delete(w.c.burnt, at)
	}
	if !puts {
		delete(w.c.docs, w.at)
		return
	}
	w.c.docs[w.at] = w.next
	w.c.past[w.at] = append(w.c.past[w.at], w.next)
}

// undone lets the words go on elsewhere, for the server may have seen the cells; where there is no other generation it is kept what they told.
func (w *writing) undone() {
	for at, x := range w.from {
		if len(x.Counts) < mostGenerations {
			w.c.words[at] = another(x)
			continue
		}
		w.c.words[at] = x
		w.c.burnt[at] = w.told[at]
	}
}

// terms are a document's words; none, if there is no document.
func (c *Client) terms(at docAt, v []api.Node) []string {
	if len(v) == 0 {
		return nil
	}
	l, _ := term.Terms(v, c.paths(at.coll))
	return l
}

// room are those of some words for whose cells there is room, in their generations and in a batch, and how many ops are left then.
func (c *Client) room(at docAt, words []string, left int) ([]string, int) {
	var l []string
	for _, word := range words {
		place := wordAt{c.epoch, at.coll, word}
		many := len(c.sequel(place, cell{}))
		if many <= min(left, space(c.word(place))) {
			l, left = append(l, word), left-many
		}
	}
	return l, left
}

// number is how many of some things are so.
func number(l ...bool) int {
	n := 0
	for _, so := range l {
		if so {
			n++
		}
	}
	return n
}

// write asks for the batch that makes a document of what it was; that there is none is told by no nodes.
func (c *Client) write(at docAt, old, now []api.Node) (string, model.Answer) {
	was, there := c.docs[at]
	older, puts := there && was.epoch < c.epoch, len(now) > 0
	takes := older || there && !puts
	if older {
		old = nil
	}
	came, went := term.Diff(c.terms(at, old), c.terms(at, now))
	// What can't be asked for must not be sealed: another box would have its nonce.
	fit, left := c.room(at, came, mostOps-number(takes, puts))
	if len(fit) < len(came) {
		return answer(api.ErrFull)
	}
	// Where there is no room for a word that went, a search tells a document too many, that is asked for, and not found to be so.
	went, _ = c.room(at, went, left)
	w := &writing{c: c, at: at, from: map[wordAt]chain.Word{}, to: map[wordAt]chain.Word{}, told: map[wordAt][]cell{}}
	if takes {
		w.take(was.epoch)
	}
	if puts {
		if err := w.put(now); err != api.OK {
			return answer(err)
		}
	}
	if err := cmp.Or(w.cells(came, false), w.cells(went, true)); err != api.OK {
		return answer(err)
	}
	return c.send(w.ops, func() { w.done(puts) }, w.undone)
}
