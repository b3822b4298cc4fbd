package order_test

import (
	"math"
	"slices"
	"strings"
	"testing"

	"cryptex/api"
	"cryptex/order"
	"cryptex/sample"
)

// rising are values, each one ahead of the next.
func rising() [][]api.Node {
	var l [][]api.Node
	for _, s := range []string{`null`, `false`, `true`, `-9223372036854775808`, `-7`, `-1`, `0`, `1`, `7`, `9223372036854775807`, `""`, `"a"`, `"aa"`, `"ab"`, `"b"`,
		`[]`, `[null]`, `[null,null]`, `[null,[]]`, `[false]`, `[1]`, `[1,2,3]`, `[1,3]`, `[2]`, `["a"]`, `[[]]`, `[[],null]`, `[[null]]`, `[{}]`,
		`{}`, `{"":9}`, `{"":9,"a":1}`, `{"":10}`, `{"a":null}`, `{"a":1}`, `{"a":1,"b":1}`, `{"a":1,"b":2}`, `{"a":1,"c":0}`, `{"a":2}`, `{"a":[]}`, `{"a":{}}`, `{"aa":0}`, `{"b":0}`} {
		l = append(l, sample.Value(s))
	}
	l = slices.Insert(l, 11, sample.Text("\x00"), sample.Text("\x00\x00"), sample.Text("\x00\xff"), sample.Text("A"))
	return slices.Insert(l, 19, sample.Text("\x80"), sample.Text("\xff"))
}

// compare is the order once more, by values taken apart.
func compare(a, b []api.Node) int {
	c, _, _ := split(a, b)
	return c
}

func split(a, b []api.Node) (int, []api.Node, []api.Node) {
	x, y := a[0], b[0]
	a, b = a[1:], b[1:]
	if x.Kind != y.Kind {
		return sign(int64(x.Kind) - int64(y.Kind)), nil, nil
	}
	if x.Num != y.Num {
		if x.Num < y.Num {
			return -1, nil, nil
		}
		return 1, nil, nil
	}
	if x.Text != y.Text {
		return strings.Compare(x.Text, y.Text), nil, nil
	}
	many := 1
	if x.Kind == api.Map {
		many = 2
	}
	for range min(x.Kids, y.Kids) * many {
		var c int
		if c, a, b = split(a, b); c != 0 {
			return c, nil, nil
		}
	}
	return sign(int64(x.Kids) - int64(y.Kids)), a, b
}

func sign(n int64) int {
	if n < 0 {
		return -1
	}
	if n > 0 {
		return 1
	}
	return 0
}

func TestCompareRises(t *testing.T) {
	l := rising()
	for i, a := range l {
		for j, b := range l {
			if got := order.Compare(a, b); got != sign(int64(i-j)) {
				t.Errorf("%v, %v: %d", a, b, got)
			}
		}
	}
}

func TestCompareIsAnOrder(t *testing.T) {
	l := sample.Values(3, 120)
	for _, a := range l {
		for _, b := range l {
			if got := order.Compare(a, b); got != compare(a, b) || got != -order.Compare(b, a) || (got == 0) != slices.Equal(a, b) {
				t.Fatalf("%v, %v: %d", a, b, got)
			}
		}
	}
	if order.Compare(sample.Deep(32), sample.Deep(31)) != 1 || order.Compare(sample.Wide(119), sample.Wide(120)) != -1 {
		t.Error("at the limits")
	}
}

func rows(l [][]api.Node) string {
	var out strings.Builder
	for _, v := range l {
		for _, n := range v {
			out.WriteString(strings.Join([]string{string(rune('0' + n.Kind)), string(rune('0' + n.Kids)), n.Text, string(rune(n.Num))}, ","))
		}
		out.WriteString(";")
	}
	return out.String()
}

func equal(a, b [][]api.Node) bool {
	return slices.EqualFunc(a, b, func(x, y []api.Node) bool { return slices.Equal(x, y) })
}

func TestSortAndLeast(t *testing.T) {
	for seed := range 20 {
		l := sample.Values(seed, seed*3)
		keep := rows(l)
		want := slices.Clone(l)
		slices.SortStableFunc(want, compare)
		if got := order.Sort(l); !equal(got, want) {
			t.Fatalf("%v", got)
		}
		for _, n := range []int{math.MinInt, -1, 0, 1, 2, 3, len(l) - 1, len(l), len(l) + 1, math.MaxInt} {
			if got := order.Least(l, n); !equal(got, want[:min(max(n, 0), len(l))]) {
				t.Fatalf("%d: %v", n, got)
			}
		}
		if rows(l) != keep {
			t.Error("the argument was changed")
		}
	}
	backwards := rising()
	slices.Reverse(backwards)
	if !equal(order.Sort(backwards), rising()) || !equal(order.Least(backwards, 5), rising()[:5]) {
		t.Error("backwards")
	}
	if len(order.Sort(nil)) != 0 || len(order.Least(nil, 3)) != 0 {
		t.Error("of nothing")
	}
}

func TestPlace(t *testing.T) {
	l := rising()
	for i, x := range l {
		if got := order.Place(l, x); got != i {
			t.Errorf("%v: %d", x, got)
		}
	}
	three := [][]api.Node{sample.Num(2), sample.Num(1), sample.Num(2), sample.Num(3)}
	for n, want := range []int{0, 0, 1, 3, 4} {
		if got := order.Place(three, sample.Num(int64(n))); got != want {
			t.Errorf("%d: %d", n, got)
		}
	}
	if order.Place(nil, sample.Null()) != 0 {
		t.Error("of nothing")
	}
}

func TestNoValues(t *testing.T) {
	one := sample.Num(1)
	for i, w := range append(sample.Wrong(), sample.Deep(33), sample.Wide(121), sample.Text(strings.Repeat("x", 121))) {
		if order.Compare(w, one) != 0 || order.Compare(one, w) != 0 || order.Compare(w, w) != 0 {
			t.Errorf("Compare of wrong %d", i)
		}
		l := [][]api.Node{sample.Num(0), w, sample.Num(0)}
		if len(order.Sort(l)) != 0 || len(order.Least(l, 1)) != 0 || len(order.Least(l, 0)) != 0 || order.Place(l, one) != 0 || order.Place([][]api.Node{sample.Num(0)}, w) != 0 {
			t.Errorf("a row with wrong %d", i)
		}
	}
}

func TestAnswersShareNothing(t *testing.T) {
	l := [][]api.Node{sample.Value("[1,2]"), sample.Null()}
	keep := rows(l)
	for _, out := range [][][]api.Node{order.Sort(l), order.Least(l, 2)} {
		for _, v := range out {
			v[0] = api.Node{Kind: 9}
		}
		out[0] = nil
	}
	if rows(l) != keep {
		t.Error("the argument was changed")
	}
	same := sample.Num(4)
	out := order.Sort([][]api.Node{same, same})
	out[0][0].Num = 5
	if out[1][0].Num != 4 {
		t.Error("two lists of an answer share")
	}
}
