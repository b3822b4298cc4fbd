package parse_test

import (
	"math"
	"slices"
	"strconv"
	"strings"
	"testing"

	"cryptex/api"
	"cryptex/parse"
	"cryptex/sample"
)

func TestSkip(t *testing.T) {
	s := " \t\n\ra \v\x00 \u00a0"
	for at, want := range map[int]int{math.MinInt: 4, -1: 4, 0: 4, 3: 4, 4: 4, 5: 6, 6: 6, 7: 7, 8: 9, 9: 9, len(s): len(s), len(s) + 1: len(s), math.MaxInt: len(s)} {
		if got := parse.Skip(s, at); got != want {
			t.Errorf("from %d: %d", at, got)
		}
	}
	if parse.Skip("", 0) != 0 || parse.Skip("  ", 0) != 2 || parse.Skip("  ", -5) != 2 {
		t.Error("of blanks")
	}
}

func TestNumber(t *testing.T) {
	for _, x := range []struct {
		s   string
		at  int
		n   int64
		end int
		ok  bool
	}{
		{"0", 0, 0, 1, true}, {"-0", 0, 0, 2, true}, {"7", 0, 7, 1, true}, {"-17x", 0, -17, 3, true}, {"10e5", 0, 10, 2, true}, {"1.5", 0, 1, 1, true},
		{"a12,", 1, 12, 3, true}, {"12", 1, 2, 2, true}, {"9223372036854775807", 0, math.MaxInt64, 19, true}, {"-9223372036854775808", 0, math.MinInt64, 20, true},
		{"9223372036854775808", 0, 0, 0, false}, {"-9223372036854775809", 0, 0, 0, false}, {" 99999999999999999999999999", 1, 0, 1, false},
		{"", 0, 0, 0, false}, {"-", 0, 0, 0, false}, {"--1", 0, 0, 0, false}, {"+1", 0, 0, 0, false}, {"x", 0, 0, 0, false}, {" 1", 0, 0, 0, false}, {"- 1", 0, 0, 0, false}, {"1", 1, 0, 1, false}, {"1", 2, 0, 2, false}, {"1", -1, 0, -1, false}, {"1", math.MaxInt, 0, math.MaxInt, false}, {"1", math.MinInt, 0, math.MinInt, false},
	} {
		n, end, ok := parse.Number(x.s, x.at)
		if n != x.n || end != x.end || ok != x.ok {
			t.Errorf("%q at %d: %d, %d, %v", x.s, x.at, n, end, ok)
		}
	}
}

func TestQuoted(t *testing.T) {
	for _, x := range []struct {
		s    string
		at   int
		text string
		end  int
		ok   bool
	}{
		{`""`, 0, "", 2, true}, {`"a b~" x`, 0, "a b~", 6, true}, {`x"y"`, 1, "y", 4, true}, {`"\"\\\/\b\f\n\r\t"`, 0, "\"\\/\x08\x0c\n\r\t", 18, true}, {`"\u0000\u001F\u00aB\u00ff\u0041"`, 0, "\x00\x1f\xab\xffA", 32, true}, {`"/"`, 0, "/", 3, true},
		{`"a`, 0, "", 0, false}, {`"`, 0, "", 0, false}, {`"a\"`, 0, "", 0, false}, {`"\`, 0, "", 0, false}, {`a"`, 0, "", 0, false}, {`""`, 2, "", 2, false}, {`""`, -1, "", -1, false}, {`""`, math.MaxInt, "", math.MaxInt, false},
		{`"\u0100"`, 0, "", 0, false}, {`"\u1000"`, 0, "", 0, false}, {`"\u00"`, 0, "", 0, false}, {`"\u000`, 0, "", 0, false}, {`"\u00g0"`, 0, "", 0, false}, {`"\u000G"`, 0, "", 0, false}, {`"\U0041"`, 0, "", 0, false}, {`"\a"`, 0, "", 0, false}, {`"\'"`, 0, "", 0, false}, {`"\x41"`, 0, "", 0, false},
	} {
		s, end, ok := parse.Quoted(x.s, x.at)
		if s != x.text || end != x.end || ok != x.ok {
			t.Errorf("%q at %d: %q, %d, %v", x.s, x.at, s, end, ok)
		}
	}
	for b := range 256 {
		one := string([]byte{byte(b)})
		s, end, ok := parse.Quoted(`"`+one+`"`, 0)
		want := b >= 32 && b < 127 && b != '"' && b != '\\'
		if b != '"' && (ok != want || want && (s != one || end != 3)) {
			t.Errorf("byte %d: %q, %d, %v", b, s, end, ok)
		}
		digits := `"\u00` + string("0123456789abcdef"[b>>4]) + string("0123456789ABCDEF"[b&15]) + `"`
		if s, end, ok := parse.Quoted(digits, 0); s != one || end != 8 || !ok {
			t.Errorf("%s: %q, %d, %v", digits, s, end, ok)
		}
	}
}

func TestParseTellsWhereItIsWrong(t *testing.T) {
	deep := strings.Repeat("[", 33) + strings.Repeat("]", 33)
	for _, x := range []struct {
		s   string
		at  int
		err api.Errno
	}{
		{``, 0, 2}, {`  `, 2, 2}, {`[1, ]`, 4, 2}, {`[1`, 2, 2}, {`[`, 1, 2}, {`[,`, 1, 2}, {`[1 2]`, 3, 2}, {`[1,,2]`, 3, 2}, {`[1]]`, 3, 2}, {`[1}`, 2, 2}, {`]`, 0, 2}, {`[ `, 2, 2}, {`[1, `, 4, 2},
		{`nul`, 3, 2}, {`nulx`, 3, 2}, {`nan`, 1, 2}, {`n`, 1, 2}, {`truefalse`, 4, 2}, {`tru e`, 3, 2}, {`False`, 0, 2}, {`fals`, 4, 2}, {`nullx`, 4, 2}, {`[tr]`, 3, 2}, {`x`, 0, 2}, {"\x00", 0, 2}, {"\xff", 0, 2},
		{`-`, 1, 2}, {`-x`, 1, 2}, {` --1`, 2, 2}, {`- 1`, 1, 2}, {`+1`, 0, 2}, {`01`, 1, 2}, {`-01`, 2, 2}, {`1.5`, 1, 2}, {`[1e5]`, 2, 2}, {`.5`, 0, 2}, {`1 1`, 2, 2}, {`[-]`, 2, 2},
		{`9223372036854775808`, 0, 2}, {` [-9223372036854775809`, 2, 2}, {`99999999999999999999x`, 0, 2},
		{`"a`, 0, 2}, {`["a`, 1, 2}, {`["\x"]`, 1, 2}, {"[1,\"a\nb\"]", 3, 2}, {`"\u0100"`, 0, 2}, {`{"a\`, 1, 2}, {`"a"b`, 3, 2}, {`"a""b"`, 3, 2},
		{`{`, 1, 2}, {`{ `, 2, 2}, {`{,`, 1, 2}, {`{1`, 1, 2}, {`{a`, 1, 2}, {`{"a"`, 4, 2}, {`{"a" 1`, 5, 2}, {`{"a":`, 5, 2}, {`{"a":}`, 5, 2}, {`{"a":1`, 6, 2}, {`{"a":1,`, 7, 2}, {`{"a":1,}`, 7, 2}, {`{"a":1 "b"`, 7, 2}, {`{"a":1]`, 6, 2}, {`{"a"::1}`, 5, 2}, {`{"a":1}}`, 7, 2}, {`{null:1}`, 1, 2}, {`{"a":1,2`, 7, 2},
		{`{"a":1,"a":2}`, 7, 7}, {` { "a" : 1 , "b":2, "\u0061" : 2 } `, 20, 7}, {`{"a":{"x":1,"x":2},"a":3}`, 12, 7}, {`{"a":1,"a":{"x":1,"x":2}}`, 7, 7}, {`[{"a":1,"a":1},{"b":1,"b":1}]`, 8, 7}, {`{"a":1,"a":2,"a":3}`, 7, 7}, {`{"":1,"":2}`, 6, 7},
		{`{"a":1,"a":2`, 12, 2}, {`{"a":1,"a":2}x`, 13, 2}, {`{"a":{"b":1},"b":{"a":1}}`, 25, 0},
		{deep, 0, 3}, {`{"a":1,"a":` + deep + `}`, 7, 7}, {deep + "x", 66, 2}, {deep[1:65], 64, 0},
		{`"` + strings.Repeat("x", 121) + `"`, 0, 4}, {`["` + strings.Repeat("x", 120) + `"]`, 124, 0}, {`[` + strings.Repeat("1,", 119) + `1]`, 0, 4}, {`[` + strings.Repeat("1,", 118) + `1]`, 239, 0}, {`{"a":1,"a":[` + strings.Repeat("1,", 119) + `1]}`, 7, 7},
		{strings.Repeat(" ", 2048), 2048, 2}, {strings.Repeat(" ", 2049), 0, 4}, {strings.Repeat(" ", 2047) + "1", 2048, 0}, {strings.Repeat(" ", 2048) + "1", 0, 4}, {strings.Repeat("[", 2048), 2048, 2},
	} {
		v, at, err := parse.Parse(x.s)
		if at != x.at || err != x.err || err != api.OK && len(v) != 0 {
			t.Errorf("%.40q: %v, %d, %v", x.s, v, at, err)
		}
		if parse.Valid(x.s) != (x.err == api.OK) {
			t.Errorf("Valid(%.40q) = %v", x.s, parse.Valid(x.s))
		}
	}
}

func TestParse(t *testing.T) {
	for _, x := range [][2]string{
		{`null`, `null`}, {` false `, `false`}, {"\t\r\n true", `true`}, {`-12`, `-12`}, {`-0`, `0`}, {`""`, `""`}, {`[]`, `[]`}, {`[ ]`, `[]`}, {`{}`, `{}`}, {`{ }`, `{}`}, {` [ 1 , [ ] , { } , "a" ] `, `[1,[],{},"a"]`}, {`{"b":1,"a":[2],"":{"d":0,"c":0}}`, `{"":{"c":0,"d":0},"a":[2],"b":1}`}, {"{\n\"a\"\t:\r1 , \"A\" : 2}", `{"A":2,"a":1}`},
	} {
		v, at, err := parse.Parse(x[0])
		if err != api.OK || at != len(x[0]) || !slices.Equal(v, sample.Value(x[1])) || !parse.Valid(x[0]) {
			t.Errorf("%q: %v, %d, %v", x[0], v, at, err)
		}
	}
}

// shown is a text of a value, with blanks and orders that look like chance.
func shown(c *sample.Chance, v []api.Node) (string, []api.Node) {
	blanks := []string{"", "", "", " ", "\n", "\t ", "\r"}
	b := func() string { return blanks[c.Below(len(blanks))] }
	n, rest := v[0], v[1:]
	var parts []string
	out := ""
	switch n.Kind {
	case api.Null:
		out = "null"
	case api.Bool:
		out = []string{"false", "true"}[n.Num]
	case api.Num:
		out = strconv.FormatInt(n.Num, 10)
	case api.Text:
		out = quote(c, n.Text)
	}
	for range n.Kids {
		part := b()
		if n.Kind == api.Map {
			part += quote(c, rest[0].Text) + b() + ":" + b()
			rest = rest[1:]
		}
		var s string
		s, rest = shown(c, rest)
		parts = append(parts, part+s+b())
	}
	switch n.Kind {
	case api.List:
		out = "[" + b() + strings.Join(parts, ",") + "]"
	case api.Map:
		for i := range parts {
			j := c.Below(i + 1)
			parts[i], parts[j] = parts[j], parts[i]
		}
		out = "{" + b() + strings.Join(parts, ",") + "}"
	}
	return out, rest
}

func quote(c *sample.Chance, s string) string {
	out := `"`
	for i := range len(s) {
		b := s[i]
		if b < 32 || b > 126 || b == '"' || b == '\\' || c.Below(3) == 0 {
			out += `\u00` + string("0123456789abcdef"[b>>4]) + string("0123456789ABCDEF"[b&15])
		} else {
			out += string(rune(b))
		}
	}
	return out + `"`
}

func TestBlanksAndOrderChangeNothing(t *testing.T) {
	c := sample.NewChance(5)
	for _, v := range sample.Values(11, 400) {
		for range 3 {
			s, _ := shown(c, v)
			s = " " + s + "\n"
			got, at, err := parse.Parse(s)
			if len(s) <= 2048 && (err != api.OK || at != len(s) || !slices.Equal(got, v)) {
				t.Fatalf("%q: %v, %d, %v", s, got, at, err)
			}
		}
	}
}

func TestAnyBytes(t *testing.T) {
	c := sample.NewChance(6)
	bytes := `{}[]",:\u00ab 0123-ntf` + "\x00\xff"
	for range 20000 {
		l := make([]byte, c.Below(12))
		for i := range l {
			l[i] = bytes[c.Below(len(bytes))]
		}
		s := string(l)
		v, at, err := parse.Parse(s)
		if at < 0 || at > len(s) || err == api.OK && at != len(s) || err != api.OK && len(v) != 0 {
			t.Fatalf("%q: %v, %d, %v", s, v, at, err)
		}
		if err == api.ErrJSON && at < len(s) && s[at] != '"' && s[at] != '-' && (s[at] < '0' || s[at] > '9') {
			if _, next, also := parse.Parse(s[:at]); also == api.ErrJSON && next < at {
				t.Fatalf("%q: wrong at %d, but without it at %d", s, at, next)
			}
		}
	}
}
