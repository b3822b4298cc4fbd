package client

import (
	"cmp"
	"slices"

	"cryptex/api"
	"cryptex/chain"
	"cryptex/model"
	"cryptex/term"
	"cryptex/vault"
)

// The kinds of ops.
const (
	putBlob  = 0
	takeBlob = 1
	putCell  = 2
	takeCell = 3
)

const (
	mostOps         = 400 // of a batch
	mostCells       = 200 // of a generation
	mostGenerations = 20
)

// another is a word in another generation, if there is one: what was asked for in the current one must not be asked for again.
func another(w chain.Word) chain.Word {
	counts := slices.Clone(w.Counts)
	if len(counts) == 0 {
		counts = []int{0}
	}
	if len(counts) < mostGenerations {
		counts = append(counts, 0)
	}
	return chain.Word{Counts: counts}
}

// full tells whether the current generation has no room.
func full(w chain.Word) bool {
	return len(w.Counts) > 0 && w.Counts[len(w.Counts)-1] == mostCells
}

// word is a word as the next cell is added to it.
func (c *Client) word(at wordAt) chain.Word {
	w := c.words[at]
	if full(w) {
		return chain.Searched(w)
	}
	return w
}

// writing is a batch that writes a document, on its way.
type writing struct {
	c    *Client
	at   docAt
	ops  []vault.Op
	next written               // the version that is put
	from map[wordAt]chain.Word // the words ahead of it
	to   map[wordAt]chain.Word // and behind
}

// cells adds a cell to each of some words.
func (w *writing) cells(words []string, gone bool) api.Errno {
	for _, word := range words {
		at := wordAt{w.c.epoch, w.at.coll, word}
		before := w.c.word(at)
		after, cell, err := chain.Add(w.c.h, w.c.wordKey(at), before, gone, w.at.id)
		if err != api.OK {
			return err
		}
		w.from[at], w.to[at] = before, after
		w.ops = append(w.ops, vault.Op{Kind: putCell, Label: cell.Label, Box: cell.Box})
	}
	return api.OK
}

// take takes out the blob of an epoch.
func (w *writing) take(epoch int) {
	w.ops = append(w.ops, vault.Op{Kind: takeBlob, Label: w.c.place(w.at, epoch).label})
}

// put puts a new version of the document.
func (w *writing) put(v []api.Node) api.Errno {
	w.next = written{w.c.epoch, w.c.versions[w.at]}
	label, box, err := w.c.sealed(w.at, w.next, v)
	if err != api.OK {
		return err
	}
	w.c.versions[w.at]++
	w.ops = append(w.ops, vault.Op{Kind: putBlob, Label: label, Box: box})
	return api.OK
}

// done keeps what is known behind the batch.
func (w *writing) done(puts bool) {
	for at, x := range w.to {
		w.c.words[at] = x
	}
	if !puts {
		delete(w.c.docs, w.at)
		return
	}
	w.c.docs[w.at] = w.next
	w.c.past[w.at] = append(w.c.past[w.at], w.next)
}

// undone lets the words go on elsewhere: the server may have seen the cells.
func (w *writing) undone() {
	for at, x := range w.from {
		w.c.words[at] = another(x)
	}
}

// terms are a document's words; none, if there is no document.
func (c *Client) terms(at docAt, v []api.Node) []string {
	if len(v) == 0 {
		return nil
	}
	l, _ := term.Terms(v, c.paths(at.coll))
	return l
}

// room are those of some words that have room for one cell more, as many as a batch has room for.
func (c *Client) room(at docAt, words []string, most int) []string {
	l := slices.DeleteFunc(slices.Clone(words), func(word string) bool {
		return full(c.word(wordAt{c.epoch, at.coll, word}))
	})
	return l[:min(len(l), most)]
}

// number is how many of some things are so.
func number(l ...bool) int {
	n := 0
	for _, so := range l {
		if so {
			n++
		}
	}
	return n
}

// write asks for the batch that makes a document of what it was; that there is none is told by no nodes.
func (c *Client) write(at docAt, old, now []api.Node) (string, model.Answer) {
	was, there := c.docs[at]
	older, puts := there && was.epoch < c.epoch, len(now) > 0
	takes := older || there && !puts
	if older {
		old = nil
	}
	came, went := term.Diff(c.terms(at, old), c.terms(at, now))
	left := mostOps - number(takes, puts)
	// What can't be asked for must not be sealed: another box would have its nonce.
	if len(c.room(at, came, left)) < len(came) {
		return answer(api.ErrFull)
	}
	// Where there is no room for a word that went, a search tells a document too many, that is asked for, and not found to be so.
	went = c.room(at, went, left-len(came))
	w := &writing{c: c, at: at, from: map[wordAt]chain.Word{}, to: map[wordAt]chain.Word{}}
	if takes {
		w.take(was.epoch)
	}
	if puts {
		if err := w.put(now); err != api.OK {
			return answer(err)
		}
	}
	if err := cmp.Or(w.cells(came, false), w.cells(went, true)); err != api.OK {
		return answer(err)
	}
	return c.send(w.ops, func() { w.done(puts) }, w.undone)
}
