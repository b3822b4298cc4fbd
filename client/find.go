package client

import (
	"slices"

	"cryptex/api"
	"cryptex/chain"
	"cryptex/model"
	"cryptex/plan"
	"cryptex/query"
	"cryptex/wire"
)

// mostBoxes is how many boxes a reply has room for.
const mostBoxes = 800

// finding is a question on its way.
type finding struct {
	c     *Client
	a     api.Act
	words []wordAt            // that are still to be searched for
	told  map[string]struct{} // ids that searches told
	ids   []string            // whose documents are still to be asked for
	docs  []api.Doc
}

// find finds documents.
func (c *Client) find(a api.Act) (string, model.Answer) {
	f := &finding{c: c, a: a, told: map[string]struct{}{}}
	cover, ok := plan.Cover(a.Find.Where, c.paths(a.Coll))
	if !ok {
		f.ids = c.ids(a.Coll)
		return f.blobs()
	}
	for _, w := range cover {
		f.words = append(f.words, c.searched(a.Coll, w)...)
	}
	return f.search()
}

// searched are the places of a word that have cells: of this epoch, and of the one ahead.
func (c *Client) searched(coll, word string) []wordAt {
	l := []wordAt{{c.epoch, coll, word}}
	if c.rotating {
		l = append(l, wordAt{c.epoch - 1, coll, word})
	}
	return slices.DeleteFunc(l, func(at wordAt) bool { return chain.Total(c.words[at]) == 0 })
}

// search asks for one word's cells after the other.
func (f *finding) search() (string, model.Answer) {
	if len(f.words) == 0 {
		f.ids = slices.DeleteFunc(f.c.ids(f.a.Coll), func(id string) bool {
			_, ok := f.told[id]
			return !ok
		})
		return f.blobs()
	}
	at := f.words[0]
	f.words = f.words[1:]
	key, w := f.c.wordKey(at), f.c.words[at]
	tokens, err := chain.Tokens(f.c.h, key, w)
	if err != api.OK {
		return answer(err)
	}
	// The server may see the tokens, whether its reply comes or not.
	f.c.words[at] = chain.Searched(w)
	return f.c.boxes(tokens, nil, func(r wire.Reply, boxes []string) (string, model.Answer) {
		ids, err := chain.Ids(f.c.h, key, w, boxes)
		if err != api.OK {
			return f.c.wrong(r, false)
		}
		for _, id := range ids {
			f.told[id] = struct{}{}
		}
		return f.search()
	})
}

// cells is how many cells tokens tell.
func cells(l []chain.Token) int {
	n := 0
	for _, t := range l {
		n += t.N
	}
	return n
}

// part are the first tokens, as many as one reply has boxes for.
func part(l []chain.Token) []chain.Token {
	for n := range l {
		if cells(l[:n+1]) > mostBoxes {
			return l[:n]
		}
	}
	return l
}

// boxes asks for the boxes of tokens, and hands them on with the last reply, behind those that are there already: in one search, if a reply has room for them.
func (c *Client) boxes(tokens []chain.Token, there []string, use func(wire.Reply, []string) (string, model.Answer)) (string, model.Answer) {
	now := part(tokens)
	return c.ask(wire.Request{Kind: askWords, Tokens: now}, func(r wire.Reply) (string, model.Answer) {
		if !c.current(r) || r.Err != api.OK || len(r.Boxes) != cells(now) {
			return c.wrong(r, false)
		}
		there, rest := slices.Concat(there, r.Boxes), tokens[len(now):]
		if len(rest) > 0 {
			return c.boxes(rest, there, use)
		}
		return use(r, there)
	})
}

// blobs asks for one document after the other, and answers.
func (f *finding) blobs() (string, model.Answer) {
	if len(f.ids) == 0 {
		docs, err := query.Run(f.a.Find, f.docs)
		return "", model.Answer{Err: err, Docs: docs}
	}
	id := f.ids[0]
	f.ids = f.ids[1:]
	return f.c.blob(docAt{f.a.Coll, id}, func(v []api.Node) (string, model.Answer) {
		f.docs = append(f.docs, api.Doc{Id: id, Tree: v})
		return f.blobs()
	})
}
