package tree_test

import (
	"math"
	"slices"
	"strings"
	"testing"

	"cryptex/api"
	"cryptex/sample"
	"cryptex/tree"
)

// end is where the value ends that begins at a place of a row that is one.
func end(l []api.Node, at int) int {
	to := at + 1
	for range l[at].Kids {
		if l[at].Kind == api.Map {
			to++
		}
		to = end(l, to)
	}
	return to
}

func kids(l []api.Node, at int) (places []int, keys []string) {
	to := at + 1
	for range l[at].Kids {
		if l[at].Kind == api.Map {
			keys = append(keys, l[to].Text)
			to++
		}
		places = append(places, to)
		to = end(l, to)
	}
	return places, keys
}

func depth(l []api.Node, at int) int {
	most := 0
	places, _ := kids(l, at)
	for _, k := range places {
		most = max(most, depth(l, k))
	}
	return most + 1
}

func good() [][]api.Node {
	return append(sample.Values(7, 300), sample.Deep(32), sample.Wide(120), sample.Text(strings.Repeat("x", 120)), sample.Value(`{"":{},"a":[[],{"b":null}],"b":[1,true,"c"]}`))
}

func bad() map[string]struct {
	row []api.Node
	err api.Errno
} {
	type x = struct {
		row []api.Node
		err api.Errno
	}
	long := strings.Repeat("x", 121)
	return map[string]x{
		"too many nodes":            {sample.Wide(121), api.ErrLarge},
		"too many that are nothing": {make([]api.Node, 121), api.ErrLarge},
		"too long a text":           {sample.Text(long), api.ErrLarge},
		"too long a key":            {sample.Map(sample.Pair(long, sample.Null())), api.ErrLarge},
		"too long, and nothing":     {append(sample.Text(long), sample.Null()...), api.ErrLarge},
		"too deep":                  {sample.Deep(33), api.ErrDeep},
		"too deep in a map":         {sample.Map(sample.Pair("a", sample.Deep(32))), api.ErrDeep},
		"deep, and nothing":         {append(sample.Deep(40), sample.Null()...), api.ErrArg},
		"deepest that may be":       {sample.Deep(120), api.ErrDeep},
	}
}

func TestCheck(t *testing.T) {
	for _, v := range good() {
		if err := tree.Check(v); err != api.OK {
			t.Errorf("%v: %v", v, err)
		}
	}
	for i, v := range sample.Wrong() {
		if err := tree.Check(v); err != api.ErrArg {
			t.Errorf("wrong %d: %v", i, err)
		}
		if err := tree.Check(sample.List(v, sample.Null())); len(v) > 0 && i != 2 && err != api.ErrArg {
			t.Errorf("a list of wrong %d: %v", i, err)
		}
	}
	for name, x := range bad() {
		if err := tree.Check(x.row); err != x.err {
			t.Errorf("%s: %v", name, err)
		}
	}
	if tree.Check(sample.Map(sample.Pair("a", sample.Deep(31)))) != api.OK {
		t.Error("as deep as may be, in a map")
	}
}

func TestPlaces(t *testing.T) {
	for _, v := range good() {
		if tree.Depth(v) != depth(v, 0) {
			t.Errorf("Depth of %v: %d", v, tree.Depth(v))
		}
		for at := range v {
			places, keys := kids(v, at)
			if !slices.Equal(tree.Sub(v, at), v[at:end(v, at)]) || !slices.Equal(tree.Kids(v, at), places) || !slices.Equal(tree.Keys(v, at), keys) {
				t.Fatalf("%v at %d: %v, %v, %q", v, at, tree.Sub(v, at), tree.Kids(v, at), tree.Keys(v, at))
			}
		}
		for _, at := range []int{-1, len(v), len(v) + 1, math.MinInt, math.MaxInt} {
			if len(tree.Sub(v, at)) != 0 || len(tree.Kids(v, at)) != 0 || len(tree.Keys(v, at)) != 0 {
				t.Errorf("%v has a place %d", v, at)
			}
		}
	}
}

func TestKidsAreWhatIsBehindTheNode(t *testing.T) {
	for _, v := range good() {
		all := v[:1:1]
		keys := tree.Keys(v, 0)
		for i, k := range tree.Kids(v, 0) {
			if len(keys) > 0 {
				all = append(all, sample.Text(keys[i])...)
			}
			all = append(all, tree.Sub(v, k)...)
		}
		if !slices.Equal(all, v) {
			t.Errorf("%v is not %v", all, v)
		}
	}
}

func TestMember(t *testing.T) {
	v := sample.Value(`{"":1,"a":{"c":2},"b":["c"]}`)
	for key, want := range map[string]string{"": `1`, "a": `{"c":2}`, "b": `["c"]`} {
		if got, ok := tree.Member(v, key); !ok || !slices.Equal(got, sample.Value(want)) {
			t.Errorf("%q: %v, %v", key, got, ok)
		}
	}
	for _, x := range [][]api.Node{v, sample.Value(`["c"]`), sample.Text("c"), sample.Null()} {
		if got, ok := tree.Member(x, "c"); ok || len(got) != 0 {
			t.Errorf("%v has c: %v", x, got)
		}
	}
}

func TestOthersTellNothing(t *testing.T) {
	rows := sample.Wrong()
	for _, x := range bad() {
		rows = append(rows, x.row)
	}
	rows = append(rows, append(sample.Value(`{"a":1}`), sample.Null()...))
	for _, v := range rows {
		got, ok := tree.Member(v, "a")
		if len(got) != 0 || ok || len(tree.Sub(v, 0)) != 0 || len(tree.Kids(v, 0)) != 0 || len(tree.Keys(v, 0)) != 0 || tree.Depth(v) != 0 {
			t.Errorf("%v tells something", v)
		}
	}
}

func TestList(t *testing.T) {
	values := good()[:20]
	for n := range 5 {
		got, err := tree.List(values[:n])
		if err != api.OK || !slices.Equal(got, sample.List(values[:n]...)) {
			t.Errorf("%v, %v", got, err)
		}
	}
	two := append(sample.Num(1), sample.Num(2)...)
	if got, err := tree.List([][]api.Node{two, nil}); err != api.OK || !slices.Equal(got, sample.Value("[1,2]")) {
		t.Errorf("rows are put behind each other: %v, %v", got, err)
	}
	null := sample.Null()
	for i, x := range []struct {
		kids [][]api.Node
		err  api.Errno
	}{{[][]api.Node{two}, 1}, {[][]api.Node{nil}, 1}, {[][]api.Node{{{Kind: 9}}}, 1}, {[][]api.Node{sample.Deep(32)}, 3}, {[][]api.Node{sample.Wide(118), null}, 0}, {[][]api.Node{sample.Wide(119), null}, 4}, {make([][]api.Node, 500), 1}} {
		if got, err := tree.List(x.kids); err != x.err || err != api.OK && len(got) != 0 {
			t.Errorf("%d: %v, %v", i, got, err)
		}
	}
}

func TestMap(t *testing.T) {
	null, one, two := sample.Null(), sample.Num(1), sample.Num(2)
	got, err := tree.Map([]string{"b", "", "a\x00", "a", "\xff"}, [][]api.Node{two, one, null, sample.Value(`["x"]`), one})
	want := sample.Map(sample.Pair("", one), sample.Pair("a", sample.Value(`["x"]`)), sample.Pair("a\x00", null), sample.Pair("b", two), sample.Pair("\xff", one))
	if err != api.OK || !slices.Equal(got, want) {
		t.Errorf("%v, %v", got, err)
	}
	if got, err := tree.Map(nil, nil); err != api.OK || !slices.Equal(got, sample.Map()) {
		t.Errorf("of nothing: %v, %v", got, err)
	}
	if got, err := tree.Map([]string{"a", "b"}, [][]api.Node{append(sample.Num(1), sample.Pair("b", two)...), nil}); err != api.ErrArg || len(got) != 0 {
		t.Errorf("rows that are no values: %v, %v", got, err)
	}
	for i, x := range []struct {
		keys []string
		kids [][]api.Node
		err  api.Errno
	}{
		{[]string{"a"}, nil, 1}, {nil, [][]api.Node{null}, 1}, {[]string{"a", "a"}, [][]api.Node{null}, 1},
		{[]string{"a", "b", "a"}, [][]api.Node{null, null, null}, 7}, {[]string{"a", "a"}, [][]api.Node{nil, sample.Deep(50)}, 7}, {[]string{"", ""}, [][]api.Node{one, one}, 7},
		{[]string{"a"}, [][]api.Node{nil}, 1}, {[]string{"a"}, [][]api.Node{sample.Deep(32)}, 3}, {[]string{strings.Repeat("k", 121)}, [][]api.Node{null}, 4}, {[]string{"a"}, [][]api.Node{sample.Wide(119)}, 4}, {[]string{"a"}, [][]api.Node{sample.Wide(118)}, 0},
	} {
		if got, err := tree.Map(x.keys, x.kids); err != x.err || err != api.OK && len(got) != 0 {
			t.Errorf("%d: %v, %v", i, got, err)
		}
	}
}

func TestSame(t *testing.T) {
	rows := append(sample.Values(9, 40), sample.Wrong()...)
	for i, a := range rows {
		for j, b := range rows {
			if tree.Same(a, b) != slices.Equal(a, b) {
				t.Errorf("%d, %d", i, j)
			}
		}
	}
	a := api.Node{Kind: api.Num, Num: 1, Text: "a", Kids: 2}
	for _, b := range []api.Node{{Kind: api.Text, Num: 1, Text: "a", Kids: 2}, {Kind: api.Num, Num: 2, Text: "a", Kids: 2}, {Kind: api.Num, Num: 1, Text: "b", Kids: 2}, {Kind: api.Num, Num: 1, Text: "a", Kids: 3}} {
		if tree.Same([]api.Node{a}, []api.Node{b}) || tree.Same([]api.Node{a, a}, []api.Node{a}) || !tree.Same([]api.Node{b}, []api.Node{b}) {
			t.Errorf("%v", b)
		}
	}
}

func TestAnswersShareNothing(t *testing.T) {
	v := sample.Value(`{"a":[1,2],"b":3}`)
	keep := slices.Clone(v)
	l, _ := tree.List([][]api.Node{v})
	keys := []string{"z", "y"}
	kids := [][]api.Node{v, sample.Null()}
	m, _ := tree.Map(keys, kids)
	member, _ := tree.Member(v, "a")
	for _, x := range [][]api.Node{tree.Sub(v, 0), tree.Sub(v, 2), member, l, m} {
		for i := range x {
			x[i] = api.Node{Kind: 9}
		}
		_ = append(x, api.Node{Kind: 9})
	}
	tree.Keys(v, 0)[0] = "x"
	tree.Kids(v, 0)[0] = 9
	if !slices.Equal(v, keep) || !slices.Equal(keys, []string{"z", "y"}) || !slices.Equal(kids[0], keep) {
		t.Errorf("the argument was changed: %v", v)
	}
}
