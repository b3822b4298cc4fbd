package path_test

import (
	"maps"
	"regexp"
	"slices"
	"strconv"
	"strings"
	"testing"

	"cryptex/api"
	"cryptex/path"
	"cryptex/sample"
	"cryptex/tree"
)

var (
	whole = regexp.MustCompile(`\A(|(\w+|\[(0|[1-9]\d{0,2})\])(\.\w+|\[(0|[1-9]\d{0,2})\])*)\z`)
	one   = regexp.MustCompile(`\w+`)
)

// split is the steps of a path, by the library.
func split(s string) ([]path.Step, bool) {
	if len(s) > 120 || !whole.MatchString(s) {
		return nil, false
	}
	var l []path.Step
	for _, at := range one.FindAllStringIndex(s, -1) {
		word := s[at[0]:at[1]]
		if at[0] > 0 && s[at[0]-1] == '[' {
			n, _ := strconv.Atoi(word)
			l = append(l, path.Step{At: n})
		} else {
			l = append(l, path.Step{Key: word, At: -1})
		}
	}
	return l, true
}

func paths() []string {
	l := []string{"", "a", "b", "a.b", "a[0]", "a[1].b", "[0]", "[0].a", "[1][0]", "[2]", "[3]", "a.a.a", "a.b[0].a", "[0][0][0]", "_", "A9_z", "0", "00", "0.1[2]", "[10]", "[999]", "ab", "ab.a", "a[2]", "a[3]", "b.a", "b[0]", "b.b", "[0].b", "[1].a", "[1].b",
		strings.Repeat("x", 120), strings.Repeat("a.", 59) + "ab", strings.Repeat("[1]", 40),
		".", "a.", ".a", "a..b", "[", "]", "[]", "a[", "a[]", "a[1", "a]", "[0]a", "a[0]b", "[01]", "[00]", "[1000]", "[-1]", "[+1]", "[ 1]", "[1 ]", "[a]", "[0].", "[0].[1]", "a.[0]", "a b", "a-b", "a\x00", "\u00e4", "a,b", "a/b", "$", "@a", "`a", "{a", "a\n", "\n",
		strings.Repeat("x", 121), strings.Repeat("a.", 60) + "a", strings.Repeat("[1]", 41), "[1_0]", "[0x1]", "[99999999999999999999]"}
	return l
}

func TestParseAndShow(t *testing.T) {
	for _, s := range paths() {
		want, ok := split(s)
		got, err := path.Parse(s)
		if !ok && (err != api.ErrPath || len(got) != 0) || ok && (err != api.OK || !slices.Equal(got, want)) {
			t.Errorf("%q: %v, %v", s, got, err)
		}
		if back, err := path.Show(want); ok && (err != api.OK || back != s) {
			t.Errorf("Show of %v: %q, %v", want, back, err)
		}
	}
	for i := range 256 {
		s := "a" + string([]byte{byte(i)}) + "b"
		_, ok := split(s)
		if _, err := path.Parse(s); (err == api.OK) != ok {
			t.Errorf("%q: %v", s, err)
		}
	}
}

func TestShowOfNoPath(t *testing.T) {
	type l = []path.Step
	for i, x := range []l{{{"", -1}}, {{"a", 0}}, {{"a", 5}}, {{"", -2}}, {{"a", -2}}, {{"", 1000}}, {{"", -1 << 63}}, {{"", 1<<63 - 1}}, {{"a", -1}, {"", -1}}, {{"a.b", -1}}, {{"a[0]", -1}}, {{"[0]", -1}}, {{"", 1}, {"[0]", -1}}, {{".a", -1}}, {{"a b", -1}}, {{"a", -1}, {".b", -1}}, {{strings.Repeat("x", 121), -1}}, {{strings.Repeat("x", 119), -1}, {"", 1}}, make(l, 41), {{"x", -1}, {strings.Repeat("y", 5000), -1}}} {
		if s, err := path.Show(x); err != api.ErrPath || s != "" {
			t.Errorf("%d: %q, %v", i, s, err)
		}
	}
	if s, err := path.Show(nil); err != api.OK || s != "" {
		t.Errorf("of no steps: %q, %v", s, err)
	}
	if s, err := path.Show(make(l, 40)); err != api.OK || s != strings.Repeat("[0]", 40) {
		t.Errorf("of many steps: %q, %v", s, err)
	}
}

// apart is a value as the library's maps and slices.
func apart(v []api.Node) (any, []api.Node) {
	n, rest := v[0], v[1:]
	var kid any
	switch n.Kind {
	case api.List:
		l := []any{}
		for range n.Kids {
			kid, rest = apart(rest)
			l = append(l, kid)
		}
		return l, rest
	case api.Map:
		m := map[string]any{}
		for range n.Kids {
			key := rest[0].Text
			kid, rest = apart(rest[1:])
			m[key] = kid
		}
		return m, rest
	}
	return n, rest
}

func together(x any) []api.Node {
	switch y := x.(type) {
	case []any:
		l := [][]api.Node{}
		for _, kid := range y {
			l = append(l, together(kid))
		}
		return sample.List(l...)
	case map[string]any:
		l := [][]api.Node{}
		for _, k := range slices.Sorted(maps.Keys(y)) {
			l = append(l, sample.Pair(k, together(y[k])))
		}
		return sample.Map(l...)
	}
	return []api.Node{x.(api.Node)}
}

func get(x any, l []path.Step) (any, bool) {
	for _, s := range l {
		switch y := x.(type) {
		case []any:
			if s.At < 0 || s.At >= len(y) {
				return nil, false
			}
			x = y[s.At]
		case map[string]any:
			kid, ok := y[s.Key]
			if !ok || s.At >= 0 {
				return nil, false
			}
			x = kid
		default:
			return nil, false
		}
	}
	return x, true
}

// change is x with another thing where the steps lead; with nothing there, if it is nil.
func change(x any, l []path.Step, to any) (any, bool) {
	if len(l) == 0 {
		return to, true
	}
	s, last := l[0], len(l) == 1
	switch y := x.(type) {
	case []any:
		switch {
		case s.At >= 0 && s.At < len(y) && last && to == nil:
			return slices.Delete(slices.Clone(y), s.At, s.At+1), true
		case s.At >= 0 && s.At < len(y):
			kid, ok := change(y[s.At], l[1:], to)
			y = slices.Clone(y)
			y[s.At] = kid
			return y, ok
		case s.At == len(y) && last && to != nil:
			return append(slices.Clone(y), to), true
		}
	case map[string]any:
		kid, there := y[s.Key]
		if s.At >= 0 || !there && (!last || to == nil) {
			return nil, false
		}
		y = maps.Clone(y)
		if last && to == nil {
			delete(y, s.Key)
			return y, true
		}
		kid, ok := change(kid, l[1:], to)
		y[s.Key] = kid
		return y, ok
	}
	return nil, false
}

func each(x any, l []path.Step) []any {
	if len(l) == 0 {
		return []any{x}
	}
	if kids, ok := x.([]any); ok && l[0].At < 0 {
		var out []any
		for _, k := range kids {
			if _, list := k.([]any); !list {
				out = append(out, each(k, l)...)
			}
		}
		return out
	}
	if kid, ok := get(x, l[:1]); ok {
		return each(kid, l[1:])
	}
	return nil
}

func values() [][]api.Node {
	l := []string{`{"a":[{"b":1},{"b":2}]}`, `[[{"a":1}],{"a":2,"b":[]},{"a":3}]`, `{"a":{"a":{"a":1},"b":[{"a":5}]},"ab":{},"b":null}`, `{}`, `[]`, `{"0":{"1":[1,2,3]},"00":7}`, `{"a":[[{"b":9}],{"b":1},{"c":2},4]}`, `[{"a":[{"b":1}]},{"a":[{"b":2},[{"b":3}]]},[{"a":4}]]`}
	var out [][]api.Node
	for _, s := range l {
		out = append(out, sample.Value(s))
	}
	return append(out, sample.Values(21, 200)...)
}

func TestValuesByPaths(t *testing.T) {
	x := sample.Value(`{"x":[1]}`)
	for _, v := range values() {
		model, _ := apart(v)
		for _, s := range paths() {
			l, ok := split(s)
			if !ok {
				continue
			}
			checkGet(t, v, s, model, l)
			to, _ := apart(x)
			checkChange(t, "Set", s, v, model, l, to, func() ([]api.Node, api.Errno) { return path.Set(v, s, x) })
			if len(l) > 0 {
				checkChange(t, "Delete", s, v, model, l, nil, func() ([]api.Node, api.Errno) { return path.Delete(v, s) })
			}
		}
	}
}

func checkGet(t *testing.T, v []api.Node, s string, model any, l []path.Step) {
	got, err := path.Get(v, s)
	if want, ok := get(model, l); ok && (err != api.OK || !slices.Equal(got, together(want))) || !ok && (err != api.ErrNone || len(got) != 0) {
		t.Errorf("Get of %v at %q: %v, %v", v, s, got, err)
	}
	all, err := path.Each(v, s)
	want := each(model, l)
	if err != api.OK || len(all) != len(want) {
		t.Errorf("Each of %v at %q: %v, %v", v, s, all, err)
		return
	}
	for i := range want {
		if !slices.Equal(all[i], together(want[i])) {
			t.Errorf("Each of %v at %q: %v", v, s, all)
		}
	}
}

func checkChange(t *testing.T, what, s string, v []api.Node, model any, l []path.Step, to any, call func() ([]api.Node, api.Errno)) {
	keep := slices.Clone(v)
	got, err := call()
	want, ok := change(model, l, to)
	if !ok && (err != api.ErrNone || len(got) != 0) {
		t.Errorf("%s of %v at %q: %v, %v", what, v, s, got, err)
	}
	if ok {
		row := together(want)
		if check := tree.Check(row); err != check || err == api.OK && !slices.Equal(got, row) || err != api.OK && len(got) != 0 {
			t.Errorf("%s of %v at %q: %v, %v", what, v, s, got, err)
		}
	}
	if !slices.Equal(v, keep) {
		t.Errorf("%s at %q changed its argument", what, s)
	}
}

func TestErrors(t *testing.T) {
	v, null := sample.Value(`{"a":[1]}`), sample.Null()
	wrong := append(sample.Wrong(), sample.Deep(33), sample.Wide(121))
	tell := func(what string, want api.Errno, calls ...func() (int, api.Errno)) {
		for i, c := range calls {
			if n, err := c(); err != want || n != 0 {
				t.Errorf("%s, call %d: %d nodes, %v", what, i, n, err)
			}
		}
	}
	all := func(v []api.Node, s string, x []api.Node) []func() (int, api.Errno) {
		return []func() (int, api.Errno){
			func() (int, api.Errno) { l, err := path.Get(v, s); return len(l), err },
			func() (int, api.Errno) { l, err := path.Set(v, s, x); return len(l), err },
			func() (int, api.Errno) { l, err := path.Delete(v, s); return len(l), err },
			func() (int, api.Errno) { l, err := path.Each(v, s); return len(l), err },
		}
	}
	for i, w := range wrong {
		tell("wrong "+strconv.Itoa(i), tree.Check(w), all(w, "..", sample.Deep(33))...)
		tell("wrong "+strconv.Itoa(i), tree.Check(w), all(v, "a", w)[1], all(v, "", w)[1], all(v, "x.y", w)[1])
	}
	for _, s := range paths() {
		if _, ok := split(s); !ok {
			tell(s, api.ErrPath, all(v, s, sample.Deep(33))...)
		}
	}
	tell("no steps", api.ErrPath, all(v, "", null)[2])
	tell("too deep", api.ErrDeep, all(v, "a[0]", sample.Deep(31))[1], all(v, "b", sample.Deep(32))[1])
	tell("too large", api.ErrLarge, all(v, "b", sample.Wide(116))[1])
	tell("leads nowhere, ahead of too deep", api.ErrNone, all(v, "b.c", sample.Deep(32))[1])
	if l, err := path.Set(v, "b", sample.Wide(115)); err != api.OK || len(l) != 120 {
		t.Errorf("as large as may be: %d, %v", len(l), err)
	}
}

func TestSetIsGotAndDeletedIsGone(t *testing.T) {
	v, x := sample.Value(`{"a":[{"b":1},2],"c":{}}`), sample.Value(`[{"z":0}]`)
	for _, s := range []string{"", "a", "a[0]", "a[0].b", "a[0].c", "a[1]", "a[2]", "c.a", "b", "d", "A"} {
		out, err := path.Set(v, s, x)
		if err != api.OK {
			t.Fatalf("%q: %v", s, err)
		}
		if got, err := path.Get(out, s); err != api.OK || !slices.Equal(got, x) {
			t.Errorf("%q is not got: %v, %v", s, got, err)
		}
		if s == "" {
			out[0] = api.Node{Kind: 9}
			continue
		}
		back, err := path.Delete(out, s)
		if err != api.OK {
			t.Errorf("%q is not deleted: %v", s, err)
		}
		if _, err := path.Get(back, s); s[len(s)-1] != ']' && err != api.ErrNone {
			t.Errorf("%q is there: %v", s, err)
		}
	}
	if !slices.Equal(x, sample.Value(`[{"z":0}]`)) {
		t.Error("an answer shares with its argument")
	}
	got, _ := path.Get(v, "a")
	l, _ := path.Each(v, "a")
	got[0], l[0][0] = api.Node{}, api.Node{}
	if !slices.Equal(v, sample.Value(`{"a":[{"b":1},2],"c":{}}`)) {
		t.Error("an answer shares with its argument")
	}
}
