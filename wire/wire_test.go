package wire_test

import (
	"encoding/binary"
	"math"
	"slices"
	"strings"
	"testing"

	"cryptex/api"
	"cryptex/chain"
	"cryptex/code"
	"cryptex/vault"
	"cryptex/wire"
)

type (
	request = wire.Request
	reply   = wire.Reply
	token   = chain.Token
)

func long(n int) string { return strings.Repeat("x", n) }

func four(n int) string { return string(binary.BigEndian.AppendUint32(nil, uint32(n))) }

func same(a, b request) bool {
	return a.Kind == b.Kind && a.Label == b.Label && slices.Equal(a.Ops, b.Ops) && slices.Equal(a.Tokens, b.Tokens)
}

func sameReply(a, b reply) bool {
	return a.Err == b.Err && a.Head == b.Head && a.N == b.N && slices.Equal(a.Boxes, b.Boxes)
}

var (
	ops  = []vault.Op{{Kind: 0, Label: "a", Box: "b\x00"}, {Kind: 3, Label: "c"}}
	some = []token{{Key: "k", N: 1}, {Key: long(64), N: 200}}
	head = long(32)
)

// requests are those that may be, and the texts of each.
func requests() ([]request, [][]string) {
	b, _ := vault.Put(ops)
	one, _ := vault.Put(ops[1:])
	many := slices.Repeat([]token{{Key: "k", N: 7}}, 40)
	return []request{{Kind: 3}, {Kind: 0, Ops: ops}, {Kind: 0, Ops: ops[1:]}, {Kind: 1, Label: "a"}, {Kind: 1, Label: "\x00" + long(63)}, {Kind: 2, Tokens: some}, {Kind: 2, Tokens: some[:1]}, {Kind: 2, Tokens: many}},
		[][]string{{"\x03"}, {"\x00", b}, {"\x00", one}, {"\x01", "a"}, {"\x01", "\x00" + long(63)}, {"\x02", "k", four(1), long(64), four(200)}, {"\x02", "k", four(1)}, append([]string{"\x02"}, slices.Repeat([]string{"k", four(7)}, 40)...)}
}

func noRequests() []request {
	l := []request{{Kind: -1}, {Kind: 4}, {Kind: 128}, {Kind: 259}, {Kind: math.MinInt}, {Kind: 0}, {Kind: 1}, {Kind: 2}, {Kind: 1, Label: long(65)}, {Kind: 2, Tokens: slices.Repeat(some[:1], 41)}, {Kind: 0, Ops: []vault.Op{{Kind: 4, Label: "a"}}}, {Kind: 0, Ops: slices.Repeat(ops, 201)}}
	for _, t := range []token{{N: 1}, {Key: long(65), N: 1}, {Key: "k", N: 0}, {Key: "k", N: 201}, {Key: "k", N: -1}, {Key: "k", N: math.MaxInt}, {Key: "k", N: 1<<32 + 1}} {
		l = append(l, request{Kind: 2, Tokens: []token{t}}, request{Kind: 2, Tokens: []token{some[0], t}})
	}
	for kind := range 4 {
		if kind != 0 {
			l = append(l, request{Kind: kind, Ops: ops}, request{Kind: kind, Ops: ops[:1]})
		}
		if kind != 1 {
			l = append(l, request{Kind: kind, Label: "a"})
		}
		if kind != 2 {
			l = append(l, request{Kind: kind, Tokens: some}, request{Kind: kind, Tokens: some[:1]})
		}
	}
	return append(l, request{Kind: 0, Ops: ops, Label: "a"}, request{Kind: 0, Ops: ops, Tokens: some}, request{Kind: 1, Label: "a", Ops: ops}, request{Kind: 1, Label: "a", Tokens: some}, request{Kind: 2, Tokens: some, Ops: ops}, request{Kind: 2, Tokens: some, Label: "a"})
}

func TestRequests(t *testing.T) {
	rows, texts := requests()
	for i, r := range rows {
		b, err := wire.PutRequest(r)
		if err != api.OK || b != code.Join(texts[i]) {
			t.Errorf("request %d: %x, %v", i, b, err)
		}
		if back, err := wire.GetRequest(b); err != api.OK || !same(back, r) {
			t.Errorf("request %d is not got: %v, %v", i, back, err)
		}
		if back, err := wire.GetReply(b); err != api.ErrBytes || !sameReply(back, reply{}) {
			t.Errorf("request %d is a reply", i)
		}
		for _, wrong := range []string{b + "\x00", b + "\x04\x00\x00", b[1:], b[:len(b)-1]} {
			if back, err := wire.GetRequest(wrong); err == api.OK || !same(back, request{}) {
				t.Errorf("request %d, wrong bytes %x: %v, %v", i, wrong, back, err)
			}
		}
	}
	if b, _ := wire.PutRequest(request{Kind: 3}); b != "\x04\x03\x00\x00" {
		t.Errorf("the example: %x", b)
	}
	for i, r := range noRequests() {
		if b, err := wire.PutRequest(r); err != api.ErrArg || b != "" {
			t.Errorf("no request %d: %x, %v", i, b, err)
		}
	}
}

func TestNothingElseIsARequest(t *testing.T) {
	b, _ := vault.Put(ops)
	for i, l := range [][]string{nil, {""}, {"\x03\x03"}, {"\x03", ""}, {"\x04"}, {"\x80"}, {"\xff", "a"}, {"\x00"}, {"\x00", ""}, {"\x00", "a"}, {"\x00", b, b}, {"\x00", b + "x"}, {"\x01"}, {"\x01", ""}, {"\x01", long(65)}, {"\x01", "a", "b"}, {"\x01", "a", ""},
		{"\x02"}, {"\x02", "k"}, {"\x02", "k", ""}, {"\x02", "k", four(1)[1:]}, {"\x02", "k", "\x00" + four(1)}, {"\x02", "k", strings.Repeat("\x00", 8) + four(1)}, {"\x02", "k", four(0)}, {"\x02", "k", four(201)}, {"\x02", "", four(1)}, {"\x02", long(65), four(1)}, {"\x02", "k", four(1), "l"}, append([]string{"\x02"}, slices.Repeat([]string{"k", four(7)}, 41)...)} {
		if r, err := wire.GetRequest(code.Join(l)); err != api.ErrBytes || !same(r, request{}) {
			t.Errorf("%d: %v, %v", i, r, err)
		}
	}
	for _, s := range []string{"x", "\x04", "\x01", "\x04\x03\x00"} {
		if _, err := wire.GetRequest(s); err != api.ErrBytes {
			t.Errorf("%x: %v", s, err)
		}
	}
}

func TestReplies(t *testing.T) {
	for i, r := range []reply{{Head: head}, {Err: 255, Head: head, N: 1 << 30}, {Head: head, N: 258, Boxes: []string{"", "a", long(8192)}}, {Err: api.ErrNone, Head: head, N: 3}, {Head: head, Boxes: slices.Repeat([]string{"b"}, 800)}} {
		want := code.Join(append([]string{"\x80", string([]byte{byte(r.Err)}), r.Head, four(r.N)}, r.Boxes...))
		b, err := wire.PutReply(r)
		if err != api.OK || b != want {
			t.Errorf("reply %d: %x, %v", i, b, err)
		}
		if back, err := wire.GetReply(b); err != api.OK || !sameReply(back, r) {
			t.Errorf("reply %d is not got: %v, %v", i, back, err)
		}
		if back, err := wire.GetRequest(b); err != api.ErrBytes || !same(back, request{}) {
			t.Errorf("reply %d is a request", i)
		}
		for _, wrong := range []string{b + "\x00", b[1:], b[:len(b)-1]} {
			if back, err := wire.GetReply(wrong); err != api.ErrBytes || !sameReply(back, reply{}) {
				t.Errorf("reply %d, wrong bytes: %v, %v", i, back, err)
			}
		}
	}
	for i, r := range []reply{{}, {Head: head[1:]}, {Head: head + "x"}, {Err: -1, Head: head}, {Err: 256, Head: head}, {Head: head, N: -1}, {Head: head, N: 1<<30 + 1}, {Head: head, N: math.MaxInt}, {Err: 1, Head: head, Boxes: []string{""}}, {Head: head, Boxes: slices.Repeat([]string{"b"}, 801)}, {Head: head, Boxes: []string{"a", long(8193)}}} {
		if b, err := wire.PutReply(r); err != api.ErrArg || b != "" {
			t.Errorf("no reply %d: %v", i, err)
		}
	}
	for i, l := range [][]string{nil, {""}, {"\x80"}, {"\x80", "\x00"}, {"\x80", "\x00", head}, {"\x80", "\x00", head[1:], four(1)}, {"\x80", "", head, four(1)}, {"\x80", "\x00\x00", head, four(1)}, {"\x80", "\x00", head, four(1)[1:]}, {"\x80", "\x00", head, "\x00" + four(1)}, {"\x80", "\x00", head, strings.Repeat("\x00", 8) + four(1)}, {"\x80", "\x00", head, "\x40\x00\x00\x01"}, {"\x81", "\x00", head, four(1)}, {"\x00", "\x00", head, four(1)}, {"\x80\x80", "\x00", head, four(1)}, {"", "\x00", head, four(1)}, {"\x80", "\x01", head, four(1), ""}, {"\x80", "\x00", head, four(1), long(8193)}, append([]string{"\x80", "\x00", head, four(1)}, slices.Repeat([]string{"b"}, 801)...)} {
		if r, err := wire.GetReply(code.Join(l)); err != api.ErrBytes || !sameReply(r, reply{}) {
			t.Errorf("no reply %d: %v, %v", i, r, err)
		}
	}
	if _, err := wire.GetReply("x"); err != api.ErrBytes {
		t.Error("no texts")
	}
}

func TestSame(t *testing.T) {
	rows, _ := requests()
	rows = append(rows, noRequests()...)
	for i, a := range rows {
		for j, b := range rows {
			if wire.SameRequest(a, b) != same(a, b) {
				t.Errorf("requests %d, %d", i, j)
			}
		}
	}
	replies := []reply{{}, {Err: 1}, {Head: "a"}, {N: 1}, {Boxes: []string{""}}, {Boxes: []string{"a"}}, {Boxes: []string{"a", "b"}}, {Err: 1, Head: "a", N: 1, Boxes: []string{"b", "a"}}}
	for i, a := range replies {
		for j, b := range replies {
			if wire.SameReply(a, b) != (i == j) {
				t.Errorf("replies %d, %d", i, j)
			}
		}
	}
	if !wire.SameRequest(request{Ops: []vault.Op{}, Tokens: []token{}}, request{}) || !wire.SameReply(reply{Boxes: []string{}}, reply{}) {
		t.Error("nothing is nothing")
	}
}
