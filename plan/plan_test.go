package plan_test

import (
	"slices"
	"testing"

	"cryptex/api"
	"cryptex/plan"
	"cryptex/query"
	"cryptex/sample"
	"cryptex/term"
)

type (
	q = api.Q
	l = []string
)

func eq(p, v string) q { return q{Op: api.OpEq, Path: p, Value: sample.Value(v)} }
func in(p, v string) q { return q{Op: api.OpIn, Path: p, Value: sample.Value(v)} }
func and(n int) q      { return q{Op: api.OpAnd, Kids: n} }
func or(n int) q       { return q{Op: api.OpOr, Kids: n} }
func not() q           { return q{Op: api.OpNot, Kids: 1} }

// words are those of pairs, a path and a value each, rising.
func words(t *testing.T, pairs ...string) l {
	t.Helper()
	var out l
	for i := 0; i < len(pairs); i += 2 {
		w, err := term.Word(pairs[i], sample.Value(pairs[i+1]))
		if err != api.OK {
			t.Fatal(err)
		}
		out = append(out, w)
	}
	slices.Sort(out)
	return out
}

func TestJoinAndHit(t *testing.T) {
	for i, x := range []struct {
		a, b, want l
		hit        bool
	}{{nil, nil, nil, false}, {l{"b", "a", "b"}, nil, l{"a", "b"}, false}, {nil, l{"b", "a"}, l{"a", "b"}, false}, {l{"c", "a"}, l{"b", "c"}, l{"a", "b", "c"}, true}, {l{""}, l{"a", ""}, l{"", "a"}, true}, {l{"a"}, l{"aa", "b"}, l{"a", "aa", "b"}, false}} {
		a, b := slices.Clone(x.a), slices.Clone(x.b)
		if got := plan.Join(a, b); !slices.Equal(got, x.want) || !slices.Equal(a, x.a) || !slices.Equal(b, x.b) {
			t.Errorf("Join %d: %q", i, got)
		}
		if plan.Hit(x.a, x.b) != x.hit || plan.Hit(x.b, x.a) != x.hit {
			t.Errorf("Hit %d", i)
		}
	}
}

func TestIndexed(t *testing.T) {
	paths := l{"a", "b.c", ""}
	for i, x := range []struct {
		q    q
		want l
		ok   bool
	}{
		{eq("a", "1"), words(t, "a", "1"), true}, {eq("b.c", "null"), words(t, "b.c", "null"), true}, {eq("", `"x"`), words(t, "", `"x"`), true}, {eq("b", "1"), nil, false}, {eq("a", "[1]"), nil, false}, {eq("a", "{}"), nil, false}, {eq("a", "[]"), nil, false},
		{in("a", "[2,1,2]"), words(t, "a", "1", "a", "2"), true}, {in("a", "[]"), nil, true}, {in("a", "[1,[]]"), nil, false}, {in("a", "[{},1]"), nil, false}, {in("b", "[1]"), nil, false},
		{q{Op: api.OpLess, Path: "a", Value: sample.Num(1)}, nil, false}, {q{Op: api.OpMore, Path: "a", Value: sample.Num(1)}, nil, false}, {q{Op: api.OpExists, Path: "a"}, nil, false}, {and(0), nil, false}, {or(0), nil, false}, {not(), nil, false},
		{q{Op: api.OpEq, Path: "a"}, nil, false}, {q{Op: api.OpIn, Path: "a", Value: sample.Null()}, nil, false}, {q{Op: api.OpEq, Path: "a", Value: sample.Num(1), Kids: 1}, nil, false}, {q{Op: 9, Path: "a"}, nil, false},
	} {
		got, ok := plan.Indexed(x.q, paths)
		if ok != x.ok || !slices.Equal(got, x.want) {
			t.Errorf("%d: %q, %v", i, got, ok)
		}
		if got, ok := plan.Cover([]q{x.q}, paths); x.q.Op < api.OpAnd && (ok != x.ok || !slices.Equal(got, x.want)) {
			t.Errorf("Cover of %d: %q, %v", i, got, ok)
		}
		if got, ok := plan.Indexed(x.q, nil); ok || len(got) != 0 {
			t.Errorf("%d, of no paths: %q, %v", i, got, ok)
		}
	}
	wrong := eq("..", "1")
	if got, ok := plan.Indexed(wrong, l{".."}); ok || len(got) != 0 {
		t.Errorf("of no path: %q, %v", got, ok)
	}
}

func TestCover(t *testing.T) {
	one, two, three, none := eq("a", "1"), in("b", "[1,2]"), in("a", "[1,2,3]"), eq("c", "1")
	w1, w2, w3 := words(t, "a", "1"), words(t, "b", "1", "b", "2"), words(t, "a", "1", "a", "2", "a", "3")
	empty := in("a", "[]")
	for i, x := range []struct {
		l    []q
		want l
		ok   bool
	}{
		{nil, nil, false}, {[]q{one, one}, nil, false}, {[]q{and(0)}, nil, false}, {[]q{or(0)}, nil, true}, {[]q{not(), one}, nil, false}, {[]q{none}, nil, false},
		{[]q{and(2), two, one}, w1, true}, {[]q{and(3), three, two, none}, w2, true}, {[]q{and(2), none, not(), one}, nil, false}, {[]q{and(2), none, three}, w3, true}, {[]q{and(2), two, or(0)}, nil, true}, {[]q{and(2), one, empty}, nil, true},
		{[]q{or(2), one, two}, plan.Join(w1, w2), true}, {[]q{or(2), one, three}, w3, true}, {[]q{or(2), one, none}, nil, false}, {[]q{or(2), one, and(0)}, nil, false}, {[]q{or(2), empty, or(0)}, nil, true}, {[]q{or(1), and(2), none, one}, w1, true},
		{[]q{and(2), eq("b", "7"), one}, words(t, "b", "7"), true}, {[]q{and(2), one, eq("b", "7")}, w1, true}, {[]q{and(3), none, in("b", "[5,6]"), in("a", "[3,4]")}, words(t, "b", "5", "b", "6"), true}, {[]q{and(2), or(2), one, eq("b", "1"), two}, plan.Join(w1, words(t, "b", "1")), true},
	} {
		got, ok := plan.Cover(x.l, l{"a", "b"})
		if ok != x.ok || !slices.Equal(got, x.want) {
			t.Errorf("%d: %q, %v", i, got, ok)
		}
	}
	if got, ok := plan.Cover([]q{or(2), one, eq("b", "2")}, l{"a"}); ok || len(got) != 0 {
		t.Errorf("the example: %q, %v", got, ok)
	}
}

func question(c *sample.Chance, depth int) []q {
	p := []string{"a", "b", "a.b", "a[0]", "b.a", "ab"}[c.Below(6)]
	v := c.Value(1 + c.Below(2))
	switch op := api.Op(c.Below(9)); {
	case op == api.OpExists:
		return []q{{Op: op, Path: p}}
	case op == api.OpIn:
		return []q{{Op: op, Path: p, Value: sample.List(v, c.Value(1))}}
	case op == api.OpNot && depth > 0:
		return append([]q{not()}, question(c, depth-1)...)
	case (op == api.OpAnd || op == api.OpOr) && depth > 0:
		out := []q{{Op: op, Kids: c.Below(4)}}
		for range out[0].Kids {
			out = append(out, question(c, depth-1)...)
		}
		return out
	}
	return []q{{Op: api.OpEq, Path: p, Value: v}}
}

func TestWhatIsAskedForHasAWordOfItsCover(t *testing.T) {
	c := sample.NewChance(55)
	paths := l{"a", "b", "a.b", "ab"}
	covered := 0
	for _, doc := range sample.Values(56, 2000) {
		terms, err := term.Terms(doc, paths)
		if err != api.OK {
			t.Fatal(err)
		}
		for range 40 {
			asked := question(c, 3)
			words, ok := plan.Cover(asked, paths)
			if !ok {
				continue
			}
			if so, err := query.Eval(asked, doc); err == api.OK && so {
				covered++
				if !plan.Hit(words, terms) {
					t.Fatalf("%v of %v: %q", asked, doc, words)
				}
			}
		}
	}
	if covered < 50 {
		t.Errorf("only %d", covered)
	}
}
