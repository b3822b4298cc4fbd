package query_test

import (
	"math"
	"slices"
	"strconv"
	"strings"
	"testing"

	"cryptex/api"
	"cryptex/order"
	"cryptex/path"
	"cryptex/query"
	"cryptex/sample"
	"cryptex/term"
	"cryptex/tree"
)

type q = api.Q

func eq(p, v string) q   { return q{Op: api.OpEq, Path: p, Value: sample.Value(v)} }
func in(p, v string) q   { return q{Op: api.OpIn, Path: p, Value: sample.Value(v)} }
func less(p, v string) q { return q{Op: api.OpLess, Path: p, Value: sample.Value(v)} }
func more(p, v string) q { return q{Op: api.OpMore, Path: p, Value: sample.Value(v)} }
func exists(p string) q  { return q{Op: api.OpExists, Path: p} }
func and(n int) q        { return q{Op: api.OpAnd, Kids: n} }
func or(n int) q         { return q{Op: api.OpOr, Kids: n} }
func not() q             { return q{Op: api.OpNot, Kids: 1} }

func noQuestions() [][]q {
	a := exists("a")
	l := [][]q{{a, a}, {and(1)}, {and(2), a}, {and(0), a}, {or(1)}, {not()}, {not(), a, a}, {and(1), and(1)}, append([]q{and(24)}, slices.Repeat([]q{a}, 24)...), append([]q{and(23)}, slices.Repeat([]q{a}, 24)...)}
	for _, x := range []q{{Op: 8}, {Op: -1}, {Op: math.MaxInt}, {Op: api.OpAnd, Kids: -1}, {Op: api.OpOr, Kids: math.MaxInt}, {Op: api.OpNot}, {Op: api.OpAnd, Path: "a"}, {Op: api.OpOr, Path: "a"}, {Op: api.OpAnd, Value: sample.Null()}, {Op: api.OpOr, Value: sample.Null()},
		{Op: api.OpEq, Path: "a"}, {Op: api.OpLess, Path: "a"}, {Op: api.OpMore, Path: "a"}, {Op: api.OpIn, Path: "a"}, {Op: api.OpIn, Path: "a", Value: sample.Null()}, {Op: api.OpIn, Path: "a", Value: sample.Map()}, {Op: api.OpExists, Path: "a", Value: sample.Null()}, {Op: api.OpIn, Path: "a", Value: []api.Node{{Kind: api.List, Kids: 1}}}, {Op: api.OpEq, Path: "a", Value: sample.Deep(33)}} {
		l = append(l, []q{x}, []q{and(2), a, x})
	}
	for _, op := range []api.Op{api.OpEq, api.OpIn, api.OpExists, api.OpLess, api.OpMore} {
		x := q{Op: op, Path: "a", Value: sample.List()}
		if op == api.OpExists {
			x.Value = nil
		}
		y := x
		x.Path = ".."
		y.Kids = 1
		l = append(l, []q{x}, []q{y, a})
	}
	one, two := not(), not()
	one.Path, two.Value = "a", sample.Null()
	return append(l, []q{one, a}, []q{two, a})
}

func TestCheckAndKids(t *testing.T) {
	a := exists("a")
	for i, x := range []struct {
		l    []q
		kids [][]int
	}{{nil, nil}, {[]q{a}, [][]int{nil}}, {[]q{exists("")}, [][]int{nil}}, {[]q{and(0)}, [][]int{nil}}, {[]q{or(2), a, a}, [][]int{{1, 2}, nil, nil}}, {[]q{and(3), not(), or(2), a, a, and(0), not(), a}, [][]int{{1, 5, 6}, {2}, {3, 4}, nil, nil, nil, {7}, nil}}, {append([]q{or(23)}, slices.Repeat([]q{a}, 23)...), nil}, {append(slices.Repeat([]q{not()}, 23), a), nil}} {
		if err := query.Check(x.l); err != api.OK {
			t.Errorf("question %d: %v", i, err)
		}
		for at, want := range x.kids {
			if got := query.Kids(x.l, at); !slices.Equal(got, want) {
				t.Errorf("question %d, Kids of %d: %v", i, at, got)
			}
		}
		for _, at := range []int{-1, len(x.l), math.MaxInt, math.MinInt} {
			if len(query.Kids(x.l, at)) != 0 {
				t.Errorf("question %d has a place %d", i, at)
			}
		}
	}
	for i, l := range noQuestions() {
		if err := query.Check(l); err != api.ErrQuery || len(query.Kids(l, 0)) != 0 {
			t.Errorf("no question %d: %v, %v", i, err, query.Kids(l, 0))
		}
		if so, err := query.Eval(l, nil); err != api.ErrQuery || so {
			t.Errorf("no question %d is so: %v", i, err)
		}
		if err := query.CheckFind(api.Find{Where: l}); err != api.ErrQuery {
			t.Errorf("no question %d is asked for: %v", i, err)
		}
	}
}

func TestEval(t *testing.T) {
	doc := sample.Value(`{"a":[1,5],"b":{"c":"x","d":[true,[2],{"e":3}]},"e":[],"l":[{"k":1},{"k":[2,3]},[{"k":4}]],"n":null}`)
	for i, x := range []struct {
		q  q
		so bool
	}{
		{less("a", "3"), true}, {less("a", "1"), false}, {more("a", "4"), true}, {more("a", "5"), false}, {less("a", `"z"`), false}, {more("a", `"z"`), false}, {more("a", "null"), false}, {less("a", "[2]"), true}, {more("a", "[1,4]"), true}, {more("a", "[1,5]"), false}, {less("b", `{"z":0}`), true},
		{eq("a", "1"), true}, {eq("a", "5"), true}, {eq("a", "2"), false}, {eq("a", "[1,5]"), true}, {eq("a", "[1]"), false}, {eq("a[1]", "5"), true}, {eq("b.c", `"x"`), true}, {eq("b.d", "true"), true}, {eq("b.d", "[2]"), false}, {eq("b.d[1]", "[2]"), true}, {eq("b.d", "2"), false}, {eq("b.d", `{"e":3}`), false}, {eq("b.d.e", "3"), true}, {eq("n", "null"), true}, {eq("x", "null"), false}, {eq("e", "[]"), true}, {eq("e", "null"), false},
		{eq("l.k", "1"), true}, {eq("l.k", "2"), true}, {eq("l.k", "[2,3]"), true}, {eq("l.k", "4"), false}, {eq("n", "false"), false}, {eq("n", "0"), false},
		{in("a", "[7,5]"), true}, {in("a", "[]"), false}, {in("a", "[2,[1,5]]"), true}, {in("a", "[[1]]"), false}, {in("b.c", `["y",["x"]]`), false}, {in("b.c", `["y","x"]`), true}, {in("x", "[null]"), false},
		{exists("a"), true}, {exists("e"), true}, {exists("n"), true}, {exists("x"), false}, {exists("a[1]"), true}, {exists("a[2]"), false}, {exists("l.k"), true}, {exists("l.x"), false}, {exists(""), true}, {exists("b.d.e"), true},
	} {
		if so, err := query.Eval([]q{x.q}, doc); err != api.OK || so != x.so {
			t.Errorf("%d: %v, %v", i, so, err)
		}
		if so, err := query.Eval([]q{not(), x.q}, doc); err != api.OK || so == x.so {
			t.Errorf("not %d: %v, %v", i, so, err)
		}
	}
	yes, no := exists("a"), exists("x")
	for i, x := range []struct {
		l  []q
		so bool
	}{{nil, true}, {[]q{and(0)}, true}, {[]q{or(0)}, false}, {[]q{not(), or(0)}, true}, {[]q{and(1), no}, false}, {[]q{and(2), yes, yes}, true}, {[]q{and(3), yes, no, yes}, false}, {[]q{and(2), yes, no}, false}, {[]q{or(2), no, no}, false}, {[]q{or(3), no, no, yes}, true}, {[]q{or(2), and(2), yes, no, not(), no}, true}, {[]q{and(2), or(2), no, yes, not(), and(0)}, false}} {
		if so, err := query.Eval(x.l, doc); err != api.OK || so != x.so {
			t.Errorf("%d: %v, %v", i, so, err)
		}
	}
	for i, w := range append(sample.Wrong(), sample.Deep(33), sample.Wide(121)) {
		if so, err := query.Eval(nil, w); err != tree.Check(w) || so {
			t.Errorf("of wrong %d: %v, %v", i, so, err)
		}
	}
}

// eval is whether a question is so, once more, and where it ends.
func eval(l []q, doc []api.Node) (bool, []q) {
	x, rest := l[0], l[1:]
	each, _ := path.Each(doc, x.Path)
	elements, _ := term.Elements(doc, x.Path)
	so := x.Op == api.OpAnd || x.Op == api.OpExists && len(each) > 0
	for _, v := range append(slices.Clone(each), elements...) {
		switch x.Op {
		case api.OpEq:
			so = so || slices.Equal(v, x.Value)
		case api.OpIn:
			for _, at := range tree.Kids(x.Value, 0) {
				so = so || slices.Equal(v, tree.Sub(x.Value, at))
			}
		case api.OpLess:
			so = so || v[0].Kind == x.Value[0].Kind && order.Compare(v, x.Value) < 0
		case api.OpMore:
			so = so || v[0].Kind == x.Value[0].Kind && order.Compare(v, x.Value) > 0
		}
	}
	for range x.Kids {
		var kid bool
		kid, rest = eval(rest, doc)
		switch x.Op {
		case api.OpAnd:
			so = so && kid
		case api.OpOr:
			so = so || kid
		case api.OpNot:
			so = !kid
		}
	}
	return so, rest
}

func question(c *sample.Chance, depth int) []q {
	p := []string{"a", "b", "a.b", "[0]", "a[0]", "", "b.a"}[c.Below(7)]
	v := c.Value(2)
	switch op := api.Op(c.Below(8)); op {
	case api.OpExists:
		return []q{exists(p)}
	case api.OpIn:
		return []q{{Op: op, Path: p, Value: sample.List(v, c.Value(1))}}
	case api.OpNot:
		if depth > 0 {
			return append([]q{not()}, question(c, depth-1)...)
		}
	case api.OpAnd, api.OpOr:
		if depth > 0 {
			l := []q{{Op: op, Kids: c.Below(3)}}
			for range l[0].Kids {
				l = append(l, question(c, depth-1)...)
			}
			return l
		}
	default:
		return []q{{Op: op, Path: p, Value: v}}
	}
	return []q{eq(p, "1")}
}

func TestEvalIsAsTold(t *testing.T) {
	c := sample.NewChance(77)
	yes := 0
	for _, doc := range sample.Values(78, 400) {
		for range 10 {
			l := question(c, 3)
			if len(l) > 24 {
				continue
			}
			want, _ := eval(l, doc)
			so, err := query.Eval(l, doc)
			if err != api.OK || so != want {
				t.Fatalf("%v of %v: %v, %v", l, doc, so, err)
			}
			if so {
				yes++
			}
		}
	}
	if yes < 100 {
		t.Errorf("only %d are so", yes)
	}
}

func badFields() [][]string {
	return [][]string{{""}, {"a", ""}, {"a."}, {"a", "b", "a"}, {"a", "a"}, {"1", "2", "3", "4", "5", "6", "7", "8", "9"}, {strings.Repeat("x", 121)}}
}

func TestCheckFind(t *testing.T) {
	for i, x := range []struct {
		f   api.Find
		err api.Errno
	}{{api.Find{}, 0}, {api.Find{By: "a[0].b", Down: true, Fields: []string{"1", "2", "3", "4", "5", "6", "7", "8"}, Limit: math.MaxInt}, 0}, {api.Find{By: "..", Limit: 1}, 10}, {api.Find{Limit: -1}, 10}, {api.Find{Limit: math.MinInt}, 10}} {
		if err := query.CheckFind(x.f); err != x.err {
			t.Errorf("%d: %v", i, err)
		}
		if l, err := query.Run(x.f, []api.Doc{{Id: "a"}}); x.err != api.OK && (err != x.err || len(l) != 0) {
			t.Errorf("Run of %d: %v", i, err)
		}
	}
	for i, l := range badFields() {
		if err := query.CheckFind(api.Find{Fields: l}); err != api.ErrQuery {
			t.Errorf("bad fields %d: %v", i, err)
		}
		if v, err := query.Project(sample.Map(), l); err != api.ErrQuery || len(v) != 0 {
			t.Errorf("Project of bad fields %d: %v, %v", i, v, err)
		}
		if v, err := query.Project(sample.Deep(33), l); err != api.ErrDeep || len(v) != 0 {
			t.Errorf("Project of bad fields %d: %v, %v", i, v, err)
		}
	}
}

func TestProject(t *testing.T) {
	doc := sample.Value(`{"a":[1,{"b":2}],"c":{"d":null}}`)
	for i, x := range []struct {
		fields []string
		want   string
	}{{nil, `{"a":[1,{"b":2}],"c":{"d":null}}`}, {[]string{"c"}, `{"c":{"d":null}}`}, {[]string{"c.d", "a[1].b", "a[0]", "x", "a.b"}, `{"a[0]":1,"a[1].b":2,"c.d":null}`}, {[]string{"x"}, `{}`}} {
		got, err := query.Project(doc, x.fields)
		if err != api.OK || !slices.Equal(got, sample.Value(x.want)) {
			t.Errorf("%d: %v, %v", i, got, err)
		}
	}
	v, _ := query.Project(doc, nil)
	v[0] = api.Node{}
	if doc[0].Kind != api.Map {
		t.Error("an answer shares with its argument")
	}
	wide := sample.Map(sample.Pair("a", sample.Wide(118)))
	if _, err := query.Project(wide, []string{"a", "a[0]"}); err != api.ErrLarge {
		t.Errorf("too large: %v", err)
	}
	if _, err := query.Project(sample.Deep(32), []string{"[0]"}); err != api.OK {
		t.Errorf("as deep as may be: %v", err)
	}
}

func docs(n int) []api.Doc {
	c := sample.NewChance(n)
	var l []api.Doc
	for range n {
		v := []string{`{"a":1}`, `{"a":2,"b":1}`, `{"a":"x"}`, `{"b":2}`, `{"a":[3,1]}`, `{"a":null}`, `{"a":2}`, `{}`, `{"a":{}}`, `{"b":[{"a":1},{"a":2}]}`}[c.Below(10)]
		l = append(l, api.Doc{Id: strconv.Itoa(c.Below(n)), Tree: sample.Value(v)})
	}
	return l
}

func same(a, b []api.Doc) bool {
	return slices.EqualFunc(a, b, func(x, y api.Doc) bool { return x.Id == y.Id && slices.Equal(x.Tree, y.Tree) })
}

// naive is Run once more: by sorting, key by key, with an order that keeps what is equal.
func naive(f api.Find, docs []api.Doc) []api.Doc {
	var l []api.Doc
	for _, d := range docs {
		if len(f.Where) == 0 {
			l = append(l, d)
		} else if so, _ := eval(f.Where, d.Tree); so {
			l = append(l, d)
		}
	}
	slices.SortStableFunc(l, func(a, b api.Doc) int { return strings.Compare(a.Id, b.Id) })
	if f.By != "" {
		slices.SortStableFunc(l, func(a, b api.Doc) int {
			x, _ := path.Each(a.Tree, f.By)
			y, _ := path.Each(b.Tree, f.By)
			c := min(len(x), 1) - min(len(y), 1)
			if len(x) > 0 && len(y) > 0 {
				c = order.Compare(x[0], y[0])
			}
			if f.Down {
				return -c
			}
			return c
		})
	}
	if f.Limit > 0 {
		l = l[:min(len(l), f.Limit)]
	}
	var out []api.Doc
	for _, d := range l {
		v, _ := query.Project(d.Tree, f.Fields)
		out = append(out, api.Doc{Id: d.Id, Tree: v})
	}
	return out
}

func TestRun(t *testing.T) {
	for _, n := range []int{0, 1, 2, 5, 12, 24, 60} {
		l := docs(n)
		keep := slices.Clone(l)
		for _, where := range [][]q{nil, {exists("a")}, {less("a", "3")}, {not(), exists("b")}, {or(0)}} {
			for _, by := range []string{"", "a", "b.a", "a[0]", "x"} {
				for _, down := range []bool{false, true} {
					for _, limit := range []int{0, 1, 3, n, n + 1, math.MaxInt} {
						f := api.Find{Where: where, By: by, Down: down, Limit: limit}
						if limit == 3 {
							f.Fields = []string{"b", "a"}
						}
						got, err := query.Run(f, l)
						if err != api.OK || !same(got, naive(f, l)) {
							t.Fatalf("%d documents, %v: %v, %v", n, f, got, err)
						}
					}
				}
			}
		}
		if !same(l, keep) {
			t.Error("the argument was changed")
		}
	}
}

func TestRunErrors(t *testing.T) {
	l := []api.Doc{{Id: "a", Tree: sample.Map(sample.Pair("a", sample.Wide(118)))}, {Id: "b", Tree: sample.Value(`{"a":1}`)}, {Id: "c", Tree: sample.Map()}}
	f := api.Find{Fields: []string{"a", "a[0]"}}
	if got, err := query.Run(f, l); err != api.ErrLarge || len(got) != 0 {
		t.Errorf("%v, %v", got, err)
	}
	f.By, f.Limit = "a", 2
	if got, err := query.Run(f, l); err != api.OK || len(got) != 2 || got[0].Id != "c" || got[1].Id != "b" {
		t.Errorf("an error of one that is not told: %v, %v", got, err)
	}
	f.Limit = 3
	if _, err := query.Run(f, l); err != api.ErrLarge {
		t.Errorf("%v", err)
	}
	for i, w := range append(sample.Wrong(), sample.Deep(33)) {
		if got, err := query.Run(api.Find{Where: []q{or(0)}}, append(slices.Clone(l), api.Doc{Tree: w})); err != api.ErrArg || len(got) != 0 {
			t.Errorf("wrong %d: %v, %v", i, got, err)
		}
		if _, err := query.Run(api.Find{Limit: -1}, []api.Doc{{Tree: w}}); err != api.ErrQuery {
			t.Errorf("wrong %d: %v", i, err)
		}
	}
	got, _ := query.Run(api.Find{}, l)
	got[0].Tree[0] = api.Node{}
	if l[0].Tree[0].Kind != api.Map {
		t.Error("an answer shares with its argument")
	}
}
