package show_test

import (
	"bytes"
	"encoding/json"
	"math"
	"slices"
	"strconv"
	"strings"
	"testing"

	"cryptex/api"
	"cryptex/parse"
	"cryptex/sample"
	"cryptex/show"
	"cryptex/tree"
)

func TestDigits(t *testing.T) {
	for _, n := range []int64{0, 1, -1, 9, 10, -10, 1234567890, math.MaxInt64, math.MinInt64} {
		if show.Digits(n) != strconv.FormatInt(n, 10) {
			t.Errorf("%d: %s", n, show.Digits(n))
		}
	}
}

func TestQuote(t *testing.T) {
	for b := range 256 {
		one := string([]byte{byte(b)})
		want := one
		if b == '"' || b == '\\' {
			want = `\` + one
		} else if b < 32 || b > 126 {
			want = `\u00` + string("0123456789abcdef"[b>>4]) + string("0123456789abcdef"[b&15])
		}
		if got := show.Quote("a" + one + one + "b"); got != `"a`+want+want+`b"` {
			t.Errorf("byte %d: %s", b, got)
		}
	}
	if show.Quote("") != `""` || show.Quote("/'\xc3\xa4") != `"/'\u00c3\u00a4"` {
		t.Error("Quote")
	}
}

func TestShow(t *testing.T) {
	for _, s := range []string{`null`, `false`, `true`, `0`, `-12`, `9223372036854775807`, `""`, `"a b"`, `[]`, `{}`, `[[],{},[null]]`, `{"":[1,2],"a":{"b":{"c":true}}}`, `[1,"a",{"b":false}]`} {
		got, err := show.Show(sample.Value(s))
		if err != api.OK || got != s || show.Size(sample.Value(s)) != len(s) {
			t.Errorf("%s: %s, %v, %d", s, got, err, show.Size(sample.Value(s)))
		}
	}
	v := sample.Map(sample.Pair("a", sample.Text("\n")), sample.Pair("b", sample.Bool(1)))
	if got, err := show.Show(v); err != api.OK || got != `{"a":"\u000a","b":true}` {
		t.Errorf("the example: %s, %v", got, err)
	}
}

func TestLines(t *testing.T) {
	v := sample.Value(`{"":[],"a":{"b":[1,{}]},"c":null}`)
	if got, err := show.Lines(v, 2); err != api.OK || got != "{\n  \"\": [],\n  \"a\": {\n    \"b\": [\n      1,\n      {}\n    ]\n  },\n  \"c\": null\n}" {
		t.Errorf("%q, %v", got, err)
	}
	if got, err := show.Lines(sample.Value("[1,[2]]"), 0); err != api.OK || got != "[\n1,\n[\n2\n]\n]" {
		t.Errorf("%q, %v", got, err)
	}
	for _, v := range sample.Values(2, 300) {
		row, _ := show.Show(v)
		for _, by := range []int{math.MinInt, -1, 0, 1, 3, 8, 9, math.MaxInt} {
			var want bytes.Buffer
			if err := json.Indent(&want, []byte(row), "", strings.Repeat(" ", min(max(by, 0), 8))); err != nil {
				t.Fatal(err)
			}
			got, err := show.Lines(v, by)
			if want.Len() > 2048 {
				if err != api.ErrLarge || got != "" {
					t.Errorf("%v by %d: %v", v, by, err)
				}
			} else if err != api.OK || got != want.String() {
				t.Errorf("%v by %d: %q, %v", v, by, got, err)
			}
		}
	}
}

func TestShownIsParsedAgain(t *testing.T) {
	seen := map[string][]api.Node{}
	for _, v := range sample.Values(4, 500) {
		s, err := show.Show(v)
		if err != api.OK || show.Size(v) != len(s) {
			t.Fatalf("%v: %v", v, err)
		}
		back, _, err := parse.Parse(s)
		if err != api.OK || !slices.Equal(back, v) {
			t.Errorf("%q: %v, %v", s, back, err)
		}
		if w, ok := seen[s]; ok && !slices.Equal(w, v) {
			t.Errorf("%v and %v are shown alike", v, w)
		}
		seen[s] = v
	}
}

func TestErrors(t *testing.T) {
	rows := append(sample.Wrong(), sample.Deep(33), sample.Wide(121), sample.Text(strings.Repeat("x", 121)))
	for i, v := range rows {
		s, err := show.Show(v)
		l, also := show.Lines(v, 1)
		if want := tree.Check(v); err != want || also != want || want == api.OK || s != "" || l != "" || show.Size(v) != 0 {
			t.Errorf("wrong %d: %q, %v, %q, %v", i, s, err, l, also)
		}
	}
}

func TestTooLong(t *testing.T) {
	texts := func(n, last int) []api.Node {
		l := make([][]api.Node, n+1)
		for i := range n {
			l[i] = sample.Text(strings.Repeat("x", 120))
		}
		l[n] = sample.Text(strings.Repeat("y", last))
		return sample.List(l...)
	}
	// 16 texts of 120 bytes, each with quotes and a comma, 2 brackets, 2 quotes: 1972 bytes, and those of the last one.
	for last, want := range map[int]api.Errno{75: 0, 76: 0, 77: 4, 120: 4} {
		v := texts(16, last)
		s, err := show.Show(v)
		if err != want || show.Size(v) != 1972+last || err == api.OK && len(s) != 1972+last || err != api.OK && s != "" {
			t.Errorf("%d: %d bytes, %v, %d", last, len(s), err, show.Size(v))
		}
	}
	// In lines there is a line feed more for each text, and one at the end.
	for last, want := range map[int]api.Errno{58: 0, 59: 4} {
		if s, err := show.Lines(texts(16, last), 0); err != want || err == api.OK && len(s) != 2048 {
			t.Errorf("%d: %d bytes, %v", last, len(s), err)
		}
	}
	all := sample.Text(strings.Repeat("\x00", 120))
	if show.Size(all) != 722 {
		t.Error("Size of what is escaped")
	}
}
