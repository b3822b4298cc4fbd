package term_test

import (
	"slices"
	"strings"
	"testing"

	"cryptex/api"
	"cryptex/code"
	"cryptex/path"
	"cryptex/sample"
	"cryptex/term"
	"cryptex/tree"
)

func word(t *testing.T, p, v string) string {
	t.Helper()
	w, err := term.Word(p, sample.Value(v))
	if err != api.OK {
		t.Fatalf("Word(%q, %s): %v", p, v, err)
	}
	return w
}

func words(t *testing.T, pairs ...string) []string {
	t.Helper()
	var l []string
	for i := 0; i < len(pairs); i += 2 {
		l = append(l, word(t, pairs[i], pairs[i+1]))
	}
	slices.Sort(l)
	return l
}

func TestElements(t *testing.T) {
	v := sample.Value(`{"a":[1,"x",[2],{"b":3},null,1],"b":{"c":4},"c":[{"d":5},{"d":[6,7,[8],{"e":9}]},[{"d":10}],{"d":{"f":11}},{"d":[]},{"d":12}],"d":true}`)
	for p, want := range map[string]string{"a": `[1,"x",null,1]`, "b": `[]`, "b.c": `[4]`, "c": `[]`, "c.d": `[5,6,7,12]`, "d": `[true]`, "a[0]": `[1]`, "a[2]": `[2]`, "a[2][0]": `[2]`, "a.b": `[3]`, "": `[]`, "x": `[]`, "d.x": `[]`, "a[9]": `[]`} {
		got, err := term.Elements(v, p)
		if err != api.OK || !slices.Equal(sample.List(got...), sample.Value(want)) {
			t.Errorf("%q: %v, %v", p, got, err)
		}
	}
	if got, err := term.Elements(sample.Num(7), ""); err != api.OK || len(got) != 1 || !slices.Equal(got[0], sample.Num(7)) {
		t.Errorf("of a plain value: %v, %v", got, err)
	}
	if got, err := term.Elements(sample.Value("[1,[2]]"), ""); err != api.OK || len(got) != 1 {
		t.Errorf("of a list: %v, %v", got, err)
	}
	if got, err := term.Elements(v, "a..b"); err != api.ErrPath || len(got) != 0 {
		t.Errorf("of no path: %v, %v", got, err)
	}
	for i, w := range append(sample.Wrong(), sample.Deep(33), sample.Wide(121)) {
		if got, err := term.Elements(w, "a..b"); err != tree.Check(w) || len(got) != 0 {
			t.Errorf("wrong %d: %v, %v", i, got, err)
		}
	}
}

func TestWordAndUnword(t *testing.T) {
	seen := map[string]bool{}
	for _, p := range []string{"", "a", "a.b", "a[0]", "ab"} {
		for _, v := range []string{`null`, `true`, `false`, `0`, `-5`, `""`, `"a"`, `"b"`} {
			w := word(t, p, v)
			bytes, _ := code.Put(sample.Value(v))
			if w != code.Join([]string{p, bytes}) || seen[w] {
				t.Errorf("%q, %s: %x", p, v, w)
			}
			seen[w] = true
			back, value, err := term.Unword(w)
			if err != api.OK || back != p || !slices.Equal(value, sample.Value(v)) {
				t.Errorf("%q, %s: %q, %v, %v", p, v, back, value, err)
			}
			if back, value, err := term.Unword(w[:len(w)-1]); err != api.ErrBytes || back != "" || len(value) != 0 {
				t.Errorf("a beginning of %x: %v", w, err)
			}
		}
	}
	null, _ := code.Put(sample.Null())
	list, _ := code.Put(sample.List())
	object, _ := code.Put(sample.Map())
	for i, l := range [][]string{nil, {"a"}, {"a", null, ""}, {"a", null, null}, {".", null}, {"a", ""}, {"a", list}, {"a", object}, {"a", null + null}, {"a", "\x04" + strings.Repeat("x", 121) + "\x00\x00"}, {"a", "\x02\x02"}, {null, "a"}} {
		if p, v, err := term.Unword(code.Join(l)); err != api.ErrBytes || p != "" || len(v) != 0 {
			t.Errorf("%d: %q, %v, %v", i, p, v, err)
		}
	}
	if _, _, err := term.Unword("\x04a"); err != api.ErrBytes {
		t.Error("no texts")
	}
}

func TestWordErrors(t *testing.T) {
	for i, x := range []struct {
		p   string
		v   []api.Node
		err api.Errno
	}{{".", nil, 9}, {"a b", sample.List(), 9}, {"a", nil, 1}, {"a", sample.Deep(33), 3}, {"a", sample.Wide(121), 4}, {"a", sample.Text(strings.Repeat("x", 121)), 4}, {"a", sample.List(), 1}, {"a", sample.Map(), 1}, {"a", sample.Value("[1]"), 1}, {strings.Repeat("x", 121), sample.Null(), 9}} {
		if w, err := term.Word(x.p, x.v); err != x.err || w != "" {
			t.Errorf("%d: %x, %v", i, w, err)
		}
	}
}

func TestTerms(t *testing.T) {
	v := sample.Value(`{"a":[2,1,2,[3]],"b":{"c":2},"tags":["a","b",["c"]]}`)
	for i, x := range []struct{ paths, want []string }{
		{nil, nil}, {[]string{"tags"}, words(t, "tags", `"a"`, "tags", `"b"`)}, {[]string{"a"}, words(t, "a", "1", "a", "2")}, {[]string{"b.c", "a"}, words(t, "a", "1", "a", "2", "b.c", "2")}, {[]string{"a", "a", "a[0]"}, words(t, "a", "1", "a", "2", "a[0]", "2")}, {[]string{"x", "b", "", "a[9]"}, nil},
	} {
		got, err := term.Terms(v, x.paths)
		if err != api.OK || !slices.Equal(got, x.want) {
			t.Errorf("%d: %q, %v", i, got, err)
		}
	}
	paths := []string{"a", "b", "[0]", "a.b"}
	for _, v := range sample.Values(41, 300) {
		var want []string
		for _, p := range paths {
			all, _ := path.Each(v, p)
			for _, x := range all {
				if x[0].Kind == api.List {
					for _, at := range tree.Kids(x, 0) {
						if w, err := term.Word(p, tree.Sub(x, at)); err == api.OK {
							want = append(want, w)
						}
					}
				} else if w, err := term.Word(p, x); err == api.OK {
					want = append(want, w)
				}
			}
		}
		slices.Sort(want)
		if got, err := term.Terms(v, paths); err != api.OK || !slices.Equal(got, slices.Compact(want)) {
			t.Errorf("%v: %q, %v", v, got, err)
		}
	}
}

func TestTermsErrors(t *testing.T) {
	v, five := sample.Map(), []string{"a", "b", "c", "d", "."}
	for i, x := range []struct {
		v     []api.Node
		paths []string
		err   api.Errno
	}{{nil, five, 1}, {sample.Deep(33), five, 3}, {sample.Wide(121), five, 4}, {v, five, 1}, {v, five[1:], 9}, {v, []string{"..", "a"}, 9}, {v, five[:4], 0}} {
		if got, err := term.Terms(x.v, x.paths); err != x.err || len(got) != 0 {
			t.Errorf("%d: %q, %v", i, got, err)
		}
	}
}

func TestDiff(t *testing.T) {
	type l = []string
	for i, x := range []struct{ old, now, came, went l }{
		{nil, nil, nil, nil}, {nil, l{"b", "a", "b"}, l{"a", "b"}, nil}, {l{"b", "a", "b"}, nil, nil, l{"a", "b"}}, {l{"c", "a", "b"}, l{"b", "d", "\x00", "c"}, l{"\x00", "d"}, l{"a"}}, {l{"a"}, l{"a", "a"}, nil, nil}, {l{"", "x"}, l{"x"}, nil, l{""}},
	} {
		old, now := slices.Clone(x.old), slices.Clone(x.now)
		came, went := term.Diff(old, now)
		if !slices.Equal(came, x.came) || !slices.Equal(went, x.went) || !slices.Equal(old, x.old) || !slices.Equal(now, x.now) {
			t.Errorf("%d: %q, %q", i, came, went)
		}
	}
}

func TestHas(t *testing.T) {
	l := []string{"b", "", "a"}
	if !term.Has(l, "a") || !term.Has(l, "b") || !term.Has(l, "") || term.Has(l, "c") || term.Has(nil, "") || term.Has(l, "ab") {
		t.Error("Has")
	}
}
