package model

import (
	"errors"
	"slices"
	"strings"

	"cryptex/api"
	"cryptex/parse"
	"cryptex/path"
	"cryptex/query"
)

// kinds is how many kinds of acts there are; the first one makes a collection.
const kinds = 7

// fault is what is wrong, and the number that it is told by.
type fault struct {
	what   string
	number api.Errno
}

func (f fault) Error() string { return f.what + ": " + f.number.Error() }

func (f fault) Unwrap() error { return f.number }

// wrong is an error of a number; none, if that is OK.
func wrong(what string, number api.Errno) error {
	if number == api.OK {
		return nil
	}
	return fault{what, number}
}

// number is what an error is told by.
func number(err error) api.Errno {
	n := api.OK
	if errors.As(err, &n) {
		return n
	}
	return api.OK
}

// changing is a collection that an act is done to, and what the act tells.
type changing struct {
	Coll
	colls []Coll // all of them, behind the act
	at    int    // the place of this one
	told  []api.Doc
}

// by is what does the acts, by their kinds.
func by() [kinds]func(*changing, api.Act) error {
	return [kinds]func(*changing, api.Act) error{(*changing).create, (*changing).insert, (*changing).replace, (*changing).change, (*changing).remove, (*changing).tell, (*changing).find}
}

// create makes a collection.
func (c *changing) create(a api.Act) error {
	if !isName(a.Coll) || len(a.Paths) > api.MaxPaths {
		return fault{"a collection that may not be", api.ErrArg}
	}
	if slices.ContainsFunc(a.Paths, func(p string) bool { return !isPath(p) }) {
		return fault{"a collection's path", api.ErrPath}
	}
	at, there := slices.BinarySearchFunc(c.colls, a.Coll, func(x Coll, name string) int { return strings.Compare(x.Name, name) })
	if there || twice(a.Paths) {
		return fault{"a collection, or a path", api.ErrTwice}
	}
	if len(c.colls) == api.MaxColls {
		return fault{"collections", api.ErrFull}
	}
	c.Coll = Coll{Name: a.Coll, Paths: slices.Clone(a.Paths)}
	c.colls, c.at = slices.Insert(c.colls, at, c.Coll), at
	return nil
}

// place is where a document stands, or would.
func (c *changing) place(id string) (int, bool) {
	return slices.BinarySearchFunc(c.Docs, id, func(d api.Doc, id string) int { return strings.Compare(d.Id, id) })
}

// there is where a document stands, or an error.
func (c *changing) there(id string) (int, error) {
	at, ok := c.place(id)
	if !ok {
		return 0, fault{"no such document", api.ErrNone}
	}
	return at, nil
}

func (c *changing) insert(a api.Act) error {
	if !isName(a.Id) {
		return fault{"a document's name", api.ErrArg}
	}
	v, err := Tree(a.Text)
	if err != api.OK {
		return fault{"a document's text", err}
	}
	at, ok := c.place(a.Id)
	if ok {
		return fault{"a document", api.ErrTwice}
	}
	if len(c.Docs) == api.MaxDocs {
		return fault{"documents", api.ErrFull}
	}
	c.Docs = slices.Insert(c.Docs, at, api.Doc{Id: a.Id, Tree: v})
	return nil
}

func (c *changing) replace(a api.Act) error {
	v, number := Tree(a.Text)
	if number != api.OK {
		return fault{"a document's text", number}
	}
	at, err := c.there(a.Id)
	if err == nil {
		c.Docs[at].Tree = v
	}
	return err
}

// changed is a value behind an act that changes it.
func changed(v []api.Node, a api.Act) ([]api.Node, api.Errno) {
	if a.Text == "" {
		return path.Delete(v, a.Path)
	}
	x, _, err := parse.Parse(a.Text)
	if err != api.OK {
		return nil, err
	}
	return path.Set(v, a.Path, x)
}

func (c *changing) change(a api.Act) error {
	at, err := c.there(a.Id)
	if err != nil {
		return err
	}
	v, number := changed(c.Docs[at].Tree, a)
	if number != api.OK {
		return fault{"a change", number}
	}
	if number := Fits(v); number != api.OK {
		return fault{"a document that is changed", number}
	}
	c.Docs[at].Tree = v
	return nil
}

func (c *changing) remove(a api.Act) error {
	at, err := c.there(a.Id)
	if err == nil {
		c.Docs = slices.Delete(c.Docs, at, at+1)
	}
	return err
}

func (c *changing) tell(a api.Act) error {
	at, err := c.there(a.Id)
	if err == nil {
		c.told = []api.Doc{copiedDoc(c.Docs[at])}
	}
	return err
}

func (c *changing) find(a api.Act) error {
	docs, err := query.Run(a.Find, c.Docs)
	c.told = docs
	return wrong("a question", err)
}

// act does an act, by its kind.
func (c *changing) act(a api.Act) error {
	if a.Kind < 0 || a.Kind >= kinds {
		return fault{"another act", api.ErrArg}
	}
	if a.Kind > 0 {
		c.at = slices.IndexFunc(c.colls, func(x Coll) bool { return x.Name == a.Coll })
		if c.at < 0 {
			return fault{"no such collection", api.ErrColl}
		}
		c.Coll = c.colls[c.at]
	}
	if err := by()[a.Kind](c, a); err != nil {
		return err
	}
	c.colls[c.at] = c.Coll
	return nil
}

// Do does something.
func Do(m Model, a api.Act) (Model, Answer) {
	if err := Check(m); err != api.OK {
		return m.copied(), Answer{Err: err}
	}
	c := changing{colls: m.copied().Colls}
	if err := c.act(a); err != nil {
		return m.copied(), Answer{Err: number(err)}
	}
	return Model{c.colls}, Answer{Docs: c.told}
}
