package code

import (
	"iter"
	"strings"

	"cryptex/api"
	"cryptex/octet"
)

// giveUp is what a reader panics with where no value goes on.
type giveUp struct{}

// open is a List, or a Map, whose end was not read yet.
type open struct {
	at   int    // its node's place
	last string // the last key
}

// reader reads a value; what is open stands in a row of its own, so that no text is too deep to be read.
type reader struct {
	s    string
	at   int
	row  []api.Node
	open []open
}

// take goes on behind so many bytes, and tells them.
func (r *reader) take(n int) string {
	if len(r.s)-r.at < n {
		panic(giveUp{})
	}
	r.at += n
	return r.s[r.at-n : r.at]
}

// single is the byte here, and goes on behind it.
func (r *reader) single() byte { return r.take(1)[0] }

// pieces are a text's parts between its bytes 0, and behind each how many bytes of s tell it, and that byte 0; the last one ends the text.
func pieces(s string) iter.Seq2[string, int] {
	return func(yield func(string, int) bool) {
		for {
			part, _, ok := strings.Cut(s, "\x00")
			if !ok || len(s) < len(part)+2 {
				panic(giveUp{})
			}
			to := len(part) + 2
			if !yield(part, to) || s[to-2:to] == textEnd {
				return
			}
			if s[to-2:to] != zero {
				panic(giveUp{})
			}
			s = s[to:]
		}
	}
}

// text reads a text, without its kind.
func (r *reader) text() string {
	out, first := []byte{}, true
	for part, to := range pieces(r.s[r.at:]) {
		if !first {
			out = append(out, 0)
		}
		out = append(out, part...)
		first = false
		r.at += to
	}
	return string(out)
}

// node reads a node, but for what stands behind it.
func (r *reader) node() api.Node {
	n := api.Node{Kind: api.Kind(r.single()) - 1}
	switch n.Kind {
	case api.Null, api.List, api.Map:
	case api.Bool:
		n.Num = int64(r.single())
		if n.Num > 1 {
			panic(giveUp{})
		}
	case api.Num:
		n.Num = int64(octet.ReadBig(r.take(8)) ^ highest)
	case api.Text:
		n.Text = r.text()
	default:
		panic(giveUp{})
	}
	return n
}

// begin reads a value, or the beginning of one that has kids.
func (r *reader) begin() {
	n := r.node()
	if n.Kind == api.List || n.Kind == api.Map {
		r.open = append(r.open, open{at: len(r.row)})
	}
	r.row = append(r.row, n)
}

// key reads the key of one member more of a Map: it stands behind the last one.
func (r *reader) key(top *open) {
	key := r.text()
	if r.row[top.at].Kids > 0 && key <= top.last {
		panic(giveUp{})
	}
	top.last = key
	r.row = append(r.row, api.Node{Kind: api.Text, Text: key})
}

// kid reads one kid more of what is open, or its end.
func (r *reader) kid() {
	if r.at == len(r.s) {
		panic(giveUp{})
	}
	top := &r.open[len(r.open)-1]
	isMap := r.row[top.at].Kind == api.Map
	switch b := r.s[r.at]; {
	case b == end:
		r.at++
		r.open = r.open[:len(r.open)-1]
		return
	case isMap && b != more:
		panic(giveUp{})
	case isMap:
		r.at++
		r.key(top)
	}
	r.row[top.at].Kids++
	r.begin()
}

// read is the value that s begins with, and where it ends.
func read(s string) (row []api.Node, to int, err api.Errno) {
	defer func() {
		if recover() != nil {
			row, to, err = nil, 0, api.ErrBytes
		}
	}()
	r := reader{s: s}
	r.begin()
	for len(r.open) > 0 {
		r.kid()
	}
	return r.row, r.at, api.OK
}

// one is the plain value that s begins with, and where it ends.
func one(s string) (n api.Node, to int, ok bool) {
	defer func() {
		if recover() != nil {
			n, to, ok = api.Node{}, 0, false
		}
	}()
	r := reader{s: s}
	n = r.node()
	return n, r.at, true
}
