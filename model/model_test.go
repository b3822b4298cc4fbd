package model_test

import (
	"maps"
	"math"
	"slices"
	"strconv"
	"strings"
	"testing"

	"cryptex/api"
	"cryptex/code"
	"cryptex/model"
	"cryptex/parse"
	"cryptex/path"
	"cryptex/query"
	"cryptex/sample"
	"cryptex/tree"
)

type (
	act  = api.Act
	doc  = api.Doc
	coll = model.Coll
)

func long(n int) string { return strings.Repeat("x", n) }

// sized is a document whose bytes are n.
func sized(n int) []api.Node {
	// 8 bytes for the map, the key and the list with their ends, 3 for each text.
	var texts [][]api.Node
	left := n - 8
	for left > 123+3 {
		texts = append(texts, sample.Text(long(120)))
		left -= 123
	}
	texts = append(texts, sample.Text(long(left-3)))
	return sample.Map(sample.Pair("a", sample.List(texts...)))
}

func sameDocs(a, b []doc) bool {
	return slices.EqualFunc(a, b, func(x, y doc) bool { return x.Id == y.Id && slices.Equal(x.Tree, y.Tree) })
}

func same(a, b model.Model) bool {
	return slices.EqualFunc(a.Colls, b.Colls, func(x, y coll) bool {
		return x.Name == y.Name && slices.Equal(x.Paths, y.Paths) && sameDocs(x.Docs, y.Docs)
	})
}

func some() model.Model {
	return model.Model{Colls: []coll{
		{Name: "books", Paths: []string{"a", "b[0]"}, Docs: []doc{{Id: "1", Tree: sample.Value(`{"a":1}`)}, {Id: "2", Tree: sample.Value(`{"a":[2,3],"b":"x"}`)}}},
		{Name: "cars", Docs: []doc{{Id: long(16), Tree: sample.Map()}}},
	}}
}

func docs(n int) []doc {
	var l []doc
	for i := range n {
		l = append(l, doc{Id: strconv.Itoa(100 + i), Tree: sample.Map()})
	}
	return l
}

func TestFitsAndTree(t *testing.T) {
	for _, x := range []struct {
		v   []api.Node
		err api.Errno
	}{{sample.Map(), 0}, {sample.Null(), 1}, {sample.List(), 1}, {sample.Text("a"), 1}, {sample.Deep(33), 3}, {sample.Wide(121), 4}, {nil, 1}, {sized(4094), 0}, {sized(4095), 4}, {sample.List(sized(4095)), 1}} {
		if err := model.Fits(x.v); err != x.err {
			t.Errorf("%d nodes: %v", len(x.v), err)
		}
	}
	if b, _ := code.Put(sized(4094)); len(b) != 4094 {
		t.Fatalf("%d bytes", len(b))
	}
	for i, x := range []struct {
		s   string
		err api.Errno
	}{{`{"b":1,"a":[]}`, 0}, {``, 2}, {`[]`, 1}, {`null`, 1}, {`{`, 2}, {`{"a":1,"a":1}`, 7}, {strings.Repeat(" ", 2049), 4}, {`{"a":` + strings.Repeat("[", 32) + strings.Repeat("]", 32) + `}`, 3}, {strings.Repeat("[", 33) + strings.Repeat("]", 33), 3}, {`{"a":[` + strings.Repeat("1,", 117) + `1]}`, 4}} {
		v, err := model.Tree(x.s)
		want, _, _ := parse.Parse(x.s)
		if err != x.err || err == api.OK && !slices.Equal(v, want) || err != api.OK && len(v) != 0 {
			t.Errorf("%d: %v, %v", i, v, err)
		}
	}
}

func wrongModels() []model.Model {
	var l []model.Model
	for _, c := range []coll{{}, {Name: long(17)}, {Name: "a", Paths: []string{"1", "2", "3", "4", "5"}}, {Name: "a", Paths: []string{".."}}, {Name: "a", Paths: []string{"a", "b", "a"}}, {Name: "a", Docs: docs(25)}, {Name: "a", Docs: []doc{{Id: "", Tree: sample.Map()}}}, {Name: "a", Docs: []doc{{Id: long(17), Tree: sample.Map()}}}, {Name: "a", Docs: []doc{{Id: "b", Tree: sample.Map()}, {Id: "a", Tree: sample.Map()}}}, {Name: "a", Docs: []doc{{Id: "b", Tree: sample.Map()}, {Id: "b", Tree: sample.Map()}}}, {Name: "a", Docs: []doc{{Id: "b", Tree: sample.List()}}}, {Name: "a", Docs: []doc{{Id: "b"}}}, {Name: "a", Docs: []doc{{Id: "b", Tree: sized(4095)}}}} {
		l = append(l, model.Model{Colls: []coll{c}})
	}
	return append(l, model.Model{Colls: []coll{{Name: "a"}, {Name: "a"}}}, model.Model{Colls: []coll{{Name: "b"}, {Name: "a"}}}, model.Model{Colls: []coll{{Name: "a"}, {Name: "b"}, {Name: "c"}, {Name: "d"}}})
}

func TestCheck(t *testing.T) {
	for i, m := range []model.Model{{}, some(), {Colls: []coll{{Name: "a", Paths: []string{"", "a", "b", "c"}, Docs: docs(24)}, {Name: "b"}, {Name: long(16), Docs: []doc{{Id: "x", Tree: sized(4094)}}}}}} {
		if err := model.Check(m); err != api.OK {
			t.Errorf("model %d: %v", i, err)
		}
	}
	for i, m := range wrongModels() {
		if err := model.Check(m); err != api.ErrArg {
			t.Errorf("wrong model %d: %v", i, err)
		}
		now, answer := model.Do(m, act{Kind: 5, Coll: "none"})
		if answer.Err != api.ErrArg || len(answer.Docs) != 0 || !same(now, m) {
			t.Errorf("wrong model %d: %v", i, answer)
		}
	}
}

func TestFindAndSame(t *testing.T) {
	m := model.Model{Colls: []coll{{Name: "b", Paths: []string{"1"}}, {Name: "a"}, {Name: "b"}}}
	if c, ok := model.Find(m, "b"); !ok || c.Name != "b" || len(c.Paths) != 1 {
		t.Errorf("%v, %v", c, ok)
	}
	if c, ok := model.Find(m, "c"); ok || !same(model.Model{Colls: []coll{c}}, model.Model{Colls: []coll{{}}}) {
		t.Errorf("%v, %v", c, ok)
	}
	c, _ := model.Find(some(), "books")
	c.Docs[0].Tree[0] = api.Node{}
	models := append(wrongModels(), some(), model.Model{}, m)
	for _, change := range []func(c *coll){func(c *coll) { c.Name = "boo" }, func(c *coll) { c.Paths[0] = "x" }, func(c *coll) { c.Docs[0].Id = "0" }, func(c *coll) { c.Docs[0].Tree[2].Num = 7 }, func(c *coll) { c.Docs = c.Docs[:1] }} {
		m := some()
		change(&m.Colls[0])
		models = append(models, m)
	}
	for i, a := range models {
		for j, b := range models {
			if model.Same(a, b) != same(a, b) {
				t.Errorf("%d, %d", i, j)
			}
		}
	}
	one := sample.Value(`{"a":1}`)
	answers := []model.Answer{{}, {Err: 1}, {Err: 2}, {Docs: []doc{{Id: "a"}}}, {Docs: []doc{{Id: "b"}}}, {Docs: []doc{{Id: "a", Tree: one}}}, {Docs: []doc{{Id: "a", Tree: sample.Map()}}}, {Docs: []doc{{Id: "a"}, {Id: "a"}}}}
	for i, a := range answers {
		for j, b := range answers {
			if model.SameAnswer(a, b) != (i == j) {
				t.Errorf("answers %d, %d", i, j)
			}
		}
	}
}

func TestErrorsInOrder(t *testing.T) {
	full := model.Model{Colls: []coll{{Name: "a", Docs: docs(24)}, {Name: "b"}, {Name: "c"}}}
	bad, five := "{", []string{"..", "1", "2", "3", "4"}
	for i, x := range []struct {
		m   model.Model
		a   act
		err api.Errno
	}{
		{some(), act{Kind: -1}, 1}, {some(), act{Kind: 7, Coll: "none"}, 1}, {some(), act{Kind: 8}, 1}, {some(), act{Kind: math.MinInt}, 1},
		{full, act{Kind: 0, Coll: ""}, 1}, {full, act{Kind: 0, Coll: long(17)}, 1}, {full, act{Kind: 0, Coll: "a", Paths: five}, 1}, {full, act{Kind: 0, Coll: "a", Paths: five[:4]}, 9}, {full, act{Kind: 0, Coll: "d", Paths: []string{"a", "a", "."}}, 9}, {full, act{Kind: 0, Coll: "a"}, 7}, {full, act{Kind: 0, Coll: "d", Paths: []string{"a", "a"}}, 7}, {full, act{Kind: 0, Coll: "d"}, 14},
		{some(), act{Kind: 1, Coll: "none", Text: bad}, 8}, {some(), act{Kind: 2, Coll: ""}, 8}, {some(), act{Kind: 3, Coll: "none"}, 8}, {some(), act{Kind: 4}, 8}, {some(), act{Kind: 5}, 8}, {some(), act{Kind: 6, Find: api.Find{Limit: -1}}, 8},
		{full, act{Kind: 1, Coll: "a", Id: "", Text: bad}, 1}, {full, act{Kind: 1, Coll: "a", Id: long(17), Text: bad}, 1}, {full, act{Kind: 1, Coll: "a", Id: "100", Text: bad}, 2}, {full, act{Kind: 1, Coll: "a", Id: "100", Text: "[]"}, 1}, {full, act{Kind: 1, Coll: "a", Id: "100", Text: "{}"}, 7}, {full, act{Kind: 1, Coll: "a", Id: "new", Text: "{}"}, 14},
		{some(), act{Kind: 2, Coll: "books", Id: "none", Text: bad}, 2}, {some(), act{Kind: 2, Coll: "books", Id: "none", Text: "7"}, 1}, {some(), act{Kind: 2, Coll: "books", Id: "none", Text: "{}"}, 6}, {some(), act{Kind: 2, Coll: "books", Id: long(17), Text: "{}"}, 6},
		{some(), act{Kind: 3, Coll: "books", Id: "none", Text: bad, Path: ".."}, 6}, {some(), act{Kind: 3, Coll: "books", Id: "1", Path: ".."}, 9}, {some(), act{Kind: 3, Coll: "books", Id: "1", Path: ""}, 9}, {some(), act{Kind: 3, Coll: "books", Id: "1", Path: "x"}, 6}, {some(), act{Kind: 3, Coll: "books", Id: "1", Text: bad, Path: ".."}, 2}, {some(), act{Kind: 3, Coll: "books", Id: "1", Text: "1", Path: ".."}, 9}, {some(), act{Kind: 3, Coll: "books", Id: "1", Text: "1", Path: "a.b"}, 6}, {some(), act{Kind: 3, Coll: "books", Id: "1", Text: "1", Path: ""}, 1}, {some(), act{Kind: 3, Coll: "books", Id: "1", Text: strings.Repeat("[", 32) + strings.Repeat("]", 32), Path: "b"}, 3},
		{some(), act{Kind: 4, Coll: "books", Id: "none"}, 6}, {some(), act{Kind: 5, Coll: "books", Id: ""}, 6}, {some(), act{Kind: 6, Coll: "books", Find: api.Find{By: "."}}, 10},
	} {
		now, answer := model.Do(x.m, x.a)
		if answer.Err != x.err || len(answer.Docs) != 0 || !same(now, x.m) {
			t.Errorf("%d: %v", i, answer)
		}
	}
	large := model.Model{Colls: []coll{{Name: "a", Docs: []doc{{Id: "x", Tree: sized(4094)}}}}}
	if _, answer := model.Do(large, act{Kind: 3, Coll: "a", Id: "x", Text: "1", Path: "b"}); answer.Err != api.ErrLarge {
		t.Errorf("what has no bucket: %v", answer)
	}
}

// naive is a model as maps.
type naive map[string]*store

type store struct {
	paths []string
	docs  map[string][]api.Node
}

func (n naive) model() model.Model {
	var m model.Model
	for _, name := range slices.Sorted(maps.Keys(n)) {
		c := coll{Name: name, Paths: n[name].paths}
		for _, id := range slices.Sorted(maps.Keys(n[name].docs)) {
			c.Docs = append(c.Docs, doc{Id: id, Tree: n[name].docs[id]})
		}
		m.Colls = append(m.Colls, c)
	}
	return m
}

// do does an act of those that the test below makes: all names, and paths, may be.
func (n naive) do(a act) ([]doc, api.Errno) {
	c, ok := n[a.Coll]
	if a.Kind == 0 {
		switch {
		case ok:
			return nil, api.ErrTwice
		case len(n) == 3:
			return nil, api.ErrFull
		}
		n[a.Coll] = &store{a.Paths, map[string][]api.Node{}}
		return nil, 0
	}
	if !ok {
		return nil, api.ErrColl
	}
	old, there := c.docs[a.Id]
	switch v, err := model.Tree(a.Text); {
	case a.Kind < 3 && err != api.OK:
		return nil, err
	case a.Kind == 1 && there:
		return nil, api.ErrTwice
	case a.Kind == 1 && len(c.docs) == 24:
		return nil, api.ErrFull
	case a.Kind == 6:
		m := n.model()
		all, _ := model.Find(m, a.Coll)
		return query.Run(a.Find, all.Docs)
	case a.Kind != 1 && !there:
		return nil, api.ErrNone
	case a.Kind < 3:
		c.docs[a.Id] = v
	case a.Kind == 3:
		v, err := path.Delete(old, a.Path)
		if a.Text != "" {
			x, _, err2 := parse.Parse(a.Text)
			if err2 != api.OK {
				return nil, err2
			}
			v, err = path.Set(old, a.Path, x)
		}
		if err == api.OK {
			err = model.Fits(v)
		}
		if err != api.OK {
			return nil, err
		}
		c.docs[a.Id] = v
	case a.Kind == 4:
		delete(c.docs, a.Id)
	case a.Kind == 5:
		return []doc{{Id: a.Id, Tree: old}}, 0
	}
	return nil, 0
}

func TestDoIsAsOfMaps(t *testing.T) {
	errs := map[api.Errno]int{}
	for seed := range 6 {
		c := sample.NewChance(seed)
		n, m := naive{}, model.Model{}
		for range 800 {
			a := act{Kind: c.Below(7), Coll: []string{"a", "b", "c", "d"}[c.Below(4)], Id: strconv.Itoa(c.Below(40)), Path: []string{"a", "b", "a.b", "c[0]", "", ".."}[c.Below(6)], Paths: []string{"a", "b.c"}[:c.Below(3)]}
			a.Text = []string{`{"a":1}`, `{"b":[1,2],"a":{"b":null}}`, `{"c":[]}`, `7`, ``, `{`, `{}`}[c.Below(7)]
			if c.Below(3) > 0 {
				a.Kind = max(a.Kind, 1+c.Below(2))
			}
			a.Find = api.Find{Where: []api.Q{{Op: api.OpExists, Path: a.Path}}, By: "a", Limit: c.Below(5)}
			keep, _ := model.Do(m, act{Kind: -1})
			now, answer := model.Do(m, a)
			docs, err := n.do(a)
			if answer.Err != err || !sameDocs(answer.Docs, docs) || !same(now, n.model()) {
				t.Fatalf("%v: %v, want %v, %v", a, answer, docs, err)
			}
			if !same(m, keep) || err != api.OK && !same(m, now) || model.Check(now) != api.OK {
				t.Fatalf("%v: the model", a)
			}
			errs[err]++
			m = now
		}
	}
	for _, err := range []api.Errno{api.OK, api.ErrArg, api.ErrJSON, api.ErrNone, api.ErrTwice, api.ErrColl, api.ErrPath, api.ErrFull} {
		if errs[err] < 5 {
			t.Errorf("%v was told %d times", err, errs[err])
		}
	}
}

func TestAnswersShareNothing(t *testing.T) {
	spoil := func(m model.Model, answer model.Answer) {
		for _, c := range m.Colls {
			for _, d := range c.Docs {
				d.Tree[0] = api.Node{Kind: 9}
			}
			for i := range c.Docs {
				c.Docs[i].Id = "spoilt"
			}
			for i := range c.Paths {
				c.Paths[i] = "spoilt"
			}
		}
		for i := range m.Colls {
			m.Colls[i].Name = "spoilt"
		}
	}
	paths := []string{"a"}
	for kind := range 8 {
		m := some()
		now, answer := model.Do(m, act{Kind: kind, Coll: "books", Id: "1", Text: `{"a":2}`, Path: "a"})
		told := slices.Clone(answer.Docs)
		var trees [][]api.Node
		for _, d := range told {
			trees = append(trees, slices.Clone(d.Tree))
		}
		spoil(now, answer)
		for i, d := range answer.Docs {
			if !tree.Same(d.Tree, trees[i]) {
				t.Errorf("kind %d: an answer shares with the model behind it", kind)
			}
		}
		if !same(m, some()) {
			t.Errorf("kind %d: an answer shares with its argument", kind)
		}
	}
	now, _ := model.Do(model.Model{}, act{Kind: 0, Coll: "x", Paths: paths})
	paths[0] = "b"
	if now.Colls[0].Paths[0] != "a" {
		t.Error("what is kept is an argument")
	}
}
