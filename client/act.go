package client

import (
	"maps"
	"slices"
	"strings"

	"cryptex/api"
	"cryptex/model"
	"cryptex/query"
)

// noPath is a text that is no path.
const noPath = "."

// ids are those of a collection's documents, rising.
func (c *Client) ids(coll string) []string {
	var l []string
	for at := range c.docs {
		if at.coll == coll {
			l = append(l, at.id)
		}
	}
	slices.Sort(l)
	return l
}

// model is the store in the open, as far as it is known: one document's value may be told, all others stand as empty Maps.
func (c *Client) model(at docAt, v []api.Node) model.Model {
	var m model.Model
	for _, x := range c.colls {
		coll := model.Coll{Name: x.Name, Paths: x.Paths}
		for _, id := range c.ids(x.Name) {
			tree := []api.Node{{Kind: api.Map}}
			if at == (docAt{x.Name, id}) {
				tree = v
			}
			coll.Docs = append(coll.Docs, api.Doc{Id: id, Tree: tree})
		}
		m.Colls = append(m.Colls, coll)
	}
	return m
}

// value is a document's value in a model.
func value(m model.Model, at docAt) []api.Node {
	coll, _ := model.Find(m, at.coll)
	i := slices.IndexFunc(coll.Docs, func(d api.Doc) bool { return d.Id == at.id })
	if i < 0 {
		return nil
	}
	return coll.Docs[i].Tree
}

// paths are a collection's paths.
func (c *Client) paths(coll string) []string {
	x, _ := model.Find(model.Model{Colls: c.colls}, coll)
	return x.Paths
}

// wrongChange is what is wrong with a change whatever its document is.
func wrongChange(m model.Model, a api.Act) api.Errno {
	there, alone := a, a
	there.Kind, alone.Path = tell, noPath
	if _, told := model.Do(m, there); told.Err != api.OK {
		return told.Err
	}
	// With a path that is none, what is told ahead of ErrPath is of the text.
	if _, told := model.Do(m, alone); told.Err != api.ErrPath {
		return told.Err
	}
	if query.CheckFind(api.Find{By: a.Path}) != api.OK || a.Path == "" && a.Text == "" {
		return api.ErrPath
	}
	if a.Path == "" {
		_, err := model.Tree(a.Text)
		return err
	}
	return api.OK
}

// act does an act of a collection.
func (c *Client) act(a api.Act) (string, model.Answer) {
	m, at := c.model(docAt{}, nil), docAt{a.Coll, a.Id}
	if a.Kind == change {
		if err := wrongChange(m, a); err != api.OK {
			return answer(err)
		}
		return c.blob(at, func(v []api.Node) (string, model.Answer) { return c.changed(at, v, a) })
	}
	now, told := model.Do(m, a)
	if told.Err != api.OK {
		return "", told
	}
	switch a.Kind {
	case create:
		c.created(now)
		return "", told
	case insert:
		return c.write(at, nil, value(now, at))
	case replace:
		return c.blob(at, func(v []api.Node) (string, model.Answer) { return c.changed(at, v, a) })
	case remove:
		return c.blob(at, func(v []api.Node) (string, model.Answer) { return c.write(at, v, nil) })
	case tell:
		return c.blob(at, func(v []api.Node) (string, model.Answer) {
			return "", model.Answer{Docs: []api.Doc{{Id: a.Id, Tree: v}}}
		})
	}
	return c.find(a)
}

// created keeps the collections of a model.
func (c *Client) created(m model.Model) {
	c.colls = nil
	for _, x := range m.Colls {
		c.colls = append(c.colls, model.Coll{Name: x.Name, Paths: x.Paths})
	}
}

// changed writes what an act makes of a document.
func (c *Client) changed(at docAt, v []api.Node, a api.Act) (string, model.Answer) {
	now, told := model.Do(c.model(at, v), a)
	if told.Err != api.OK {
		return "", told
	}
	return c.write(at, v, value(now, at))
}

// older are the documents that were written in an older epoch, by collection, by id.
func (c *Client) older() []docAt {
	l := slices.Collect(maps.Keys(c.docs))
	l = slices.DeleteFunc(l, func(at docAt) bool { return c.docs[at].epoch == c.epoch })
	slices.SortFunc(l, func(a, b docAt) int {
		if by := strings.Compare(a.coll, b.coll); by != 0 {
			return by
		}
		return strings.Compare(a.id, b.id)
	})
	return l
}
