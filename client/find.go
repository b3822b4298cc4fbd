package client

import (
	"slices"

	"cryptex/api"
	"cryptex/chain"
	"cryptex/model"
	"cryptex/plan"
	"cryptex/query"
	"cryptex/wire"
)

// finding is a question on its way.
type finding struct {
	c     *Client
	a     api.Act
	words []wordAt            // that are still to be searched for
	told  map[string]struct{} // ids that searches told
	ids   []string            // whose documents are still to be asked for
	docs  []api.Doc
}

// find finds documents.
func (c *Client) find(a api.Act) (string, model.Answer) {
	f := &finding{c: c, a: a, told: map[string]struct{}{}}
	cover, ok := plan.Cover(a.Find.Where, c.paths(a.Coll))
	if !ok {
		f.ids = c.ids(a.Coll)
		return f.blobs()
	}
	for _, w := range cover {
		f.words = append(f.words, c.searched(a.Coll, w)...)
	}
	return f.search()
}

// searched are the places of a word that have cells: of this epoch, and of the one ahead.
func (c *Client) searched(coll, word string) []wordAt {
	l := []wordAt{{c.epoch, coll, word}}
	if c.rotating {
		l = append(l, wordAt{c.epoch - 1, coll, word})
	}
	return slices.DeleteFunc(l, func(at wordAt) bool { return chain.Total(c.words[at]) == 0 })
}

// search asks for one word's cells after the other.
func (f *finding) search() (string, model.Answer) {
	if len(f.words) == 0 {
		f.ids = slices.DeleteFunc(f.c.ids(f.a.Coll), func(id string) bool {
			_, ok := f.told[id]
			return !ok
		})
		return f.blobs()
	}
	at := f.words[0]
	f.words = f.words[1:]
	key, w := f.c.wordKey(at), f.c.words[at]
	tokens, err := chain.Tokens(f.c.h, key, w)
	if err != api.OK {
		return answer(err)
	}
	// The server may see the tokens, whether its reply comes or not.
	f.c.words[at] = chain.Searched(w)
	return f.c.ask(wire.Request{Kind: askWords, Tokens: tokens}, func(r wire.Reply) (string, model.Answer) {
		if !f.c.current(r) || r.Err != api.OK {
			return f.c.wrong(r, false)
		}
		ids, err := chain.Ids(f.c.h, key, w, r.Boxes)
		if err != api.OK {
			return f.c.wrong(r, false)
		}
		for _, id := range ids {
			f.told[id] = struct{}{}
		}
		return f.search()
	})
}

// blobs asks for one document after the other, and answers.
func (f *finding) blobs() (string, model.Answer) {
	if len(f.ids) == 0 {
		docs, err := query.Run(f.a.Find, f.docs)
		return "", model.Answer{Err: err, Docs: docs}
	}
	id := f.ids[0]
	f.ids = f.ids[1:]
	return f.c.blob(docAt{f.a.Coll, id}, func(v []api.Node) (string, model.Answer) {
		f.docs = append(f.docs, api.Doc{Id: id, Tree: v})
		return f.blobs()
	})
}
