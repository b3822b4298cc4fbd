// Package sample makes values for tests: it stands on package api alone, so that no layer is held against itself.
package sample

import (
	"slices"
	"strconv"
	"strings"

	"cryptex/api"
)

// Null is a Null.
func Null() []api.Node { return []api.Node{{Kind: api.Null}} }

// Bool is a Bool.
func Bool(n int64) []api.Node { return []api.Node{{Kind: api.Bool, Num: n}} }

// Num is a Num.
func Num(n int64) []api.Node { return []api.Node{{Kind: api.Num, Num: n}} }

// Text is a Text.
func Text(s string) []api.Node { return []api.Node{{Kind: api.Text, Text: s}} }

// List is a List of rows.
func List(kids ...[]api.Node) []api.Node {
	return append([]api.Node{{Kind: api.List, Kids: len(kids)}}, slices.Concat(kids...)...)
}

// Map is a Map of rows: each one a key, and a value behind it, in order.
func Map(pairs ...[]api.Node) []api.Node {
	return append([]api.Node{{Kind: api.Map, Kids: len(pairs)}}, slices.Concat(pairs...)...)
}

// Pair is a key, and a value behind it.
func Pair(key string, value []api.Node) []api.Node { return append(Text(key), value...) }

// reader reads a text that is trusted: no blanks, no escapes, keys in order.
type reader struct {
	s  string
	at int
}

// Value is the value of such a text: `{"a":[1,null]}`.
func Value(s string) []api.Node {
	r := reader{s: s}
	return r.value()
}

func (r *reader) value() []api.Node {
	for _, w := range []string{"null", "false", "true"} {
		if strings.HasPrefix(r.s[r.at:], w) {
			r.at += len(w)
			return map[string][]api.Node{"null": Null(), "false": Bool(0), "true": Bool(1)}[w]
		}
	}
	switch r.s[r.at] {
	case '"':
		return Text(r.text())
	case '[':
		return List(r.kids(']', r.value)...)
	case '{':
		return Map(r.kids('}', r.pair)...)
	}
	end := r.at + 1
	for end < len(r.s) && r.s[end] >= '0' && r.s[end] <= '9' {
		end++
	}
	n, _ := strconv.ParseInt(r.s[r.at:end], 10, 64)
	r.at = end
	return Num(n)
}

func (r *reader) text() string {
	end := r.at + 1 + strings.IndexByte(r.s[r.at+1:], '"')
	s := r.s[r.at+1 : end]
	r.at = end + 1
	return s
}

func (r *reader) pair() []api.Node {
	key := r.text()
	r.at++
	return Pair(key, r.value())
}

func (r *reader) kids(end byte, one func() []api.Node) [][]api.Node {
	var l [][]api.Node
	for r.at++; r.s[r.at] != end; {
		l = append(l, one())
		if r.s[r.at] == ',' {
			r.at++
		}
	}
	r.at++
	return l
}

// Chance is a row of numbers that look like chance, the same ones each time.
type Chance struct{ state uint64 }

// NewChance is the row of a seed.
func NewChance(seed int) *Chance { return &Chance{state: uint64(seed)*2 + 88172645463325252} }

// Next is the next number.
func (c *Chance) Next() uint64 {
	c.state ^= c.state << 13
	c.state ^= c.state >> 7
	c.state ^= c.state << 17
	return c.state * 0x2545f4914f6cdd1d
}

// Below is the next number below n.
func (c *Chance) Below(n int) int { return int(c.Next() >> 33 % uint64(n)) }

// Bytes is a text of n bytes.
func (c *Chance) Bytes(n int) string {
	l := make([]byte, n)
	for i := range l {
		l[i] = byte(c.Next() >> 40)
	}
	return string(l)
}

// Value is a value of at most so many levels.
func (c *Chance) Value(depth int) []api.Node {
	kind := c.Below(6)
	if depth < 2 {
		kind = c.Below(4)
	}
	switch kind {
	case 0:
		return Null()
	case 1:
		return Bool(int64(c.Below(2)))
	case 2:
		return Num([]int64{0, 1, -1, 255, 256, -256, 1 << 62, -1 << 63, 1<<63 - 1, int64(c.Next())}[c.Below(10)])
	case 3:
		return Text([]string{"", "a", "b", "ab", "\x00", "\x00\x00", "a\x00", "\xff", "a\x01", "\x00\xff", c.Bytes(c.Below(5))}[c.Below(11)])
	case 4:
		l := make([][]api.Node, c.Below(4))
		for i := range l {
			l[i] = c.Value(depth - 1)
		}
		return List(l...)
	}
	keys := []string{"", "\x00", "a", "a\x00", "ab", "b", "\xff"}
	var l [][]api.Node
	for _, k := range keys {
		if c.Below(3) == 0 {
			l = append(l, Pair(k, c.Value(depth-1)))
		}
	}
	return Map(l...)
}

// Values are n values of at most MaxNodes nodes each.
func Values(seed, n int) [][]api.Node {
	c := NewChance(seed)
	var l [][]api.Node
	for len(l) < n {
		if v := c.Value(4); len(v) <= api.MaxNodes {
			l = append(l, v)
		}
	}
	return l
}

// Deep is a value of that depth.
func Deep(n int) []api.Node {
	v := Num(7)
	for i := 1; i < n; i++ {
		v = List(v)
	}
	return v
}

// Wide is a value of that many nodes.
func Wide(n int) []api.Node {
	l := make([][]api.Node, n-1)
	for i := range l {
		l[i] = Null()
	}
	return List(l...)
}

// Wrong are rows that are no value.
func Wrong() [][]api.Node {
	n := func(l ...api.Node) []api.Node { return l }
	text := func(s string) api.Node { return api.Node{Kind: api.Text, Text: s} }
	null := api.Node{}
	return [][]api.Node{nil, {}, n(null, null), n(api.Node{Num: 1}), n(api.Node{Text: "a"}), n(api.Node{Kids: 1}, null), n(api.Node{Kids: 1}),
		n(api.Node{Kind: api.Bool, Num: 2}), n(api.Node{Kind: api.Bool, Num: -1}), n(api.Node{Kind: api.Bool, Text: "a"}), n(api.Node{Kind: api.Bool, Kids: 1}, null),
		n(api.Node{Kind: api.Num, Text: "a"}), n(api.Node{Kind: api.Num, Kids: 1}, null), n(api.Node{Kind: api.Num, Kids: -1}),
		n(api.Node{Kind: api.Text, Num: 1}), n(api.Node{Kind: api.Text, Kids: 1}, null),
		n(api.Node{Kind: api.List, Kids: -1}), n(api.Node{Kind: api.List, Kids: 1}), n(api.Node{Kind: api.List, Kids: 1 << 62}, null), n(api.Node{Kind: api.List}, null), n(api.Node{Kind: api.List, Num: 1}), n(api.Node{Kind: api.List, Text: "a"}),
		n(api.Node{Kind: api.Map, Kids: -1}), n(api.Node{Kind: api.Map, Kids: 1}), n(api.Node{Kind: api.Map, Kids: 1}, text("a")), n(api.Node{Kind: api.Map, Kids: 1}, null, null), n(api.Node{Kind: api.Map, Kids: 1 << 62}, text("a"), null), n(api.Node{Kind: api.Map, Num: 1}), n(api.Node{Kind: api.Map, Text: "a"}),
		n(api.Node{Kind: api.Map, Kids: 1}, api.Node{Kind: api.Text, Text: "a", Num: 1}, null), n(api.Node{Kind: api.Map, Kids: 2}, text("a"), null, text("a"), null), n(api.Node{Kind: api.Map, Kids: 2}, text("b"), null, text("a"), null), n(api.Node{Kind: api.Map, Kids: 2}, text(""), null, text(""), null),
		n(api.Node{Kind: 6}), n(api.Node{Kind: -1}), n(api.Node{Kind: 1 << 40})}
}
