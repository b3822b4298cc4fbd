package vault_test

import (
	"crypto/sha256"
	"encoding/binary"
	"maps"
	"math"
	"slices"
	"strconv"
	"strings"
	"testing"

	"cryptex/api"
	"cryptex/code"
	"cryptex/sample"
	"cryptex/vault"
)

type (
	op    = vault.Op
	item  = vault.Item
	state = vault.State
)

func sum(s string) string {
	x := sha256.Sum256([]byte(s))
	return string(x[:])
}

// same is what Same should tell.
func same(a, b state) bool {
	return slices.Equal(a.Blobs, b.Blobs) && slices.Equal(a.Cells, b.Cells) && a.Head == b.Head && a.N == b.N
}

func zero(s state) bool { return same(s, state{}) }

func ops(n int) []op {
	l := make([]op, n)
	for i := range l {
		l[i] = op{Kind: 2, Label: "label " + strconv.Itoa(i), Box: "box"}
	}
	return l
}

func items(n int) []item {
	l := make([]item, n)
	for i := range l {
		l[i] = item{Label: strconv.Itoa(100000 + i), Box: "box"}
	}
	return l
}

func long(n int) string { return strings.Repeat("x", n) }

func noBatches() [][]op {
	l := [][]op{nil, {}, ops(401)}
	for _, o := range []op{{Kind: -1, Label: "a"}, {Kind: 4, Label: "a"}, {Kind: 256, Label: "a"}, {Kind: math.MinInt, Label: "a"}, {Kind: 0}, {Kind: 1}, {Kind: 2, Label: long(65)}, {Kind: 3, Label: long(65)}, {Kind: 0, Label: "a", Box: long(8193)}, {Kind: 2, Label: "a", Box: long(8193)}, {Kind: 1, Label: "a", Box: "x"}, {Kind: 3, Label: "a", Box: "x"}} {
		l = append(l, []op{o}, append(ops(2), o))
	}
	return l
}

func batches() [][]op {
	return [][]op{{{Kind: 0, Label: "a"}}, {{Kind: 1, Label: "a"}}, {{Kind: 2, Label: "\x00", Box: "\x00\xff"}}, {{Kind: 3, Label: long(64)}}, {{Kind: 0, Label: long(64), Box: long(8192)}, {Kind: 1, Label: "b"}}, ops(400), {{Kind: 3, Label: "a"}, {Kind: 3, Label: "a"}}}
}

func noStates() []state {
	head := vault.New().Head
	l := []state{{}, {Head: head[1:]}, {Head: head + "x"}, {Head: head, N: -1}, {Head: head, N: 1<<30 + 1}, {Head: head, N: math.MaxInt}}
	for _, x := range [][]item{items(1001), {{Label: ""}}, {{Label: long(65)}}, {{Label: "a", Box: long(8193)}}, {{Label: "a"}, {Label: "a"}}, {{Label: "b"}, {Label: "a"}}, {{Label: "a"}, {Label: "b"}, {Label: "ab"}}} {
		l = append(l, state{Blobs: x, Head: head}, state{Cells: x, Head: head})
	}
	return l
}

func states() []state {
	head := sum("x")
	return []state{vault.New(), {Head: head, N: 1 << 30}, {Head: head, N: 5, Blobs: []item{{"a", ""}, {"a\x00", "x"}, {"b", long(8192)}}}, {Head: head, Cells: []item{{"\x00", "\x00\xff"}, {long(64), "y"}}}, {Head: head, N: 258, Blobs: items(1000), Cells: items(1000)}, {Head: head, Blobs: items(1), Cells: items(2)}, {Head: head, Blobs: items(2), Cells: items(1)}}
}

func TestNewAndCheck(t *testing.T) {
	if s := vault.New(); len(s.Blobs) != 0 || len(s.Cells) != 0 || s.N != 0 || s.Head != sum("") {
		t.Errorf("%v", s)
	}
	for i, s := range states() {
		if vault.Check(s) != api.OK {
			t.Errorf("state %d may be", i)
		}
	}
	for i, s := range noStates() {
		if vault.Check(s) != api.ErrArg {
			t.Errorf("state %d may not be", i)
		}
		got, err := vault.Apply(s, ops(1))
		if b, also := vault.Bytes(s); also != api.ErrArg || b != "" || err != api.ErrArg || !zero(got) {
			t.Errorf("state %d: %v, %v", i, err, also)
		}
	}
}

func TestPutAndGet(t *testing.T) {
	seen := map[string]bool{}
	for i, l := range batches() {
		var parts []string
		for _, o := range l {
			parts = append(parts, string([]byte{byte(o.Kind)}), o.Label, o.Box)
		}
		b, err := vault.Put(l)
		if err != api.OK || b != code.Join(parts) || seen[b] {
			t.Errorf("batch %d: %v", i, err)
		}
		seen[b] = true
		if back, err := vault.Get(b); err != api.OK || !slices.Equal(back, l) {
			t.Errorf("batch %d is not got: %v", i, err)
		}
		if back, err := vault.Get(b + "\x01"); err != api.ErrBytes || len(back) != 0 {
			t.Errorf("batch %d with a byte behind: %v", i, err)
		}
		if head, err := vault.Next("head", l); err != api.OK || head != sum("head"+b) {
			t.Errorf("Next of batch %d: %x, %v", i, head, err)
		}
	}
	for i, l := range noBatches() {
		var parts []string
		for _, o := range l {
			parts = append(parts, string([]byte{byte(o.Kind)}), o.Label, o.Box)
		}
		b, err := vault.Put(l)
		head, also := vault.Next("head", l)
		if err != api.ErrArg || also != api.ErrArg || b != "" || head != "" {
			t.Errorf("no batch %d: %v, %v", i, err, also)
		}
		if got, err := vault.Apply(vault.New(), l); err != api.ErrArg || !zero(got) {
			t.Errorf("no batch %d is done: %v", i, err)
		}
		last := len(l) > 0 && l[len(l)-1].Kind&255 != l[len(l)-1].Kind
		if back, err := vault.Get(code.Join(parts)); !last && (err != api.ErrBytes || len(back) != 0) {
			t.Errorf("no batch %d is got: %v, %v", i, back, err)
		}
	}
	for i, parts := range [][]string{{"\x00"}, {"\x00", "a"}, {"", "a", "b"}, {"\x00\x00", "a", "b"}, {"\x04", "a", "b"}, {"\xff", "a", ""}, {"\x00", "a", "", ""}, {"\x00", "a", "", "\x00"}} {
		if back, err := vault.Get(code.Join(parts)); err != api.ErrBytes || len(back) != 0 {
			t.Errorf("parts %d: %v, %v", i, back, err)
		}
	}
	if _, err := vault.Get("x"); err != api.ErrBytes {
		t.Error("no texts")
	}
}

func TestFind(t *testing.T) {
	l := []item{{"c", "1"}, {"a", "2"}, {"c", "3"}, {"", "4"}}
	for label, want := range map[string]string{"c": "1", "a": "2", "": "4"} {
		if box, ok := vault.Find(l, label); !ok || box != want {
			t.Errorf("%q: %q, %v", label, box, ok)
		}
	}
	for _, l := range [][]item{l, nil} {
		if box, ok := vault.Find(l, "b"); ok || box != "" {
			t.Errorf("b: %q, %v", box, ok)
		}
	}
}

func TestSame(t *testing.T) {
	l := append(states(), noStates()...)
	l = append(l, state{Head: sum("x"), Blobs: []item{{"a", "b"}}}, state{Head: sum("x"), Blobs: []item{{"a", "c"}}}, state{Head: sum("x"), Blobs: []item{{"b", "b"}}}, state{Head: sum("x"), Cells: []item{{"a", "b"}}})
	for i, a := range l {
		for j, b := range l {
			if vault.Same(a, b) != same(a, b) {
				t.Errorf("%d, %d", i, j)
			}
		}
	}
}

// naive is a state as maps.
type naive struct {
	items [2]map[string]string
	head  string
	n     int
}

func (x *naive) apply(l []op) api.Errno {
	now := [2]map[string]string{maps.Clone(x.items[0]), maps.Clone(x.items[1])}
	for _, o := range l {
		m := now[o.Kind/2]
		_, there := m[o.Label]
		switch {
		case o.Kind == 2 && there:
			return api.ErrTwice
		case o.Kind%2 == 1 && !there:
			return api.ErrNone
		case o.Kind%2 == 1:
			delete(m, o.Label)
		case !there && len(m) == 1000:
			return api.ErrFull
		default:
			m[o.Label] = o.Box
		}
	}
	b, _ := vault.Put(l)
	x.items, x.head, x.n = now, sum(x.head+b), x.n+1
	return api.OK
}

func (x *naive) state() state {
	rows := [2][]item{}
	for i, m := range x.items {
		for _, label := range slices.Sorted(maps.Keys(m)) {
			rows[i] = append(rows[i], item{Label: label, Box: m[label]})
		}
	}
	return state{Blobs: rows[0], Cells: rows[1], Head: x.head, N: x.n}
}

func TestApplyIsAsOfMaps(t *testing.T) {
	c := sample.NewChance(8)
	x := &naive{items: [2]map[string]string{{}, {}}, head: sum("")}
	s := vault.New()
	errs := map[api.Errno]int{}
	for range 3000 {
		l := make([]op, 1+c.Below(3))
		for i := range l {
			l[i] = op{Kind: c.Below(4), Label: c.Bytes(1)[:1]}
			l[i].Label = strconv.Itoa(int(l[i].Label[0]) % 12)
			if l[i].Kind%2 == 0 {
				l[i].Box = c.Bytes(c.Below(3))
			}
		}
		keep := s
		blobs, cells := slices.Clone(s.Blobs), slices.Clone(s.Cells)
		now, err := vault.Apply(s, l)
		want := x.apply(l)
		errs[err]++
		if err != want || err == api.OK && !same(now, x.state()) || err != api.OK && !zero(now) {
			t.Fatalf("%v: %v, %v", l, now, err)
		}
		if !slices.Equal(keep.Blobs, blobs) || !slices.Equal(keep.Cells, cells) {
			t.Fatal("the argument was changed")
		}
		if err == api.OK {
			s = now
		}
	}
	if errs[api.OK] < 100 || errs[api.ErrTwice] < 100 || errs[api.ErrNone] < 100 {
		t.Errorf("%v", errs)
	}
}

func TestApplyErrors(t *testing.T) {
	full := state{Head: sum("x"), Blobs: items(1000), Cells: items(1000)}
	late := state{Head: sum("x"), N: 1 << 30, Blobs: items(1)}
	first := items(1)[0].Label
	for i, x := range []struct {
		s   state
		l   []op
		err api.Errno
	}{
		{full, []op{{0, "new", ""}}, 14}, {full, []op{{2, "new", ""}}, 14}, {full, []op{{0, first, "other"}}, 0}, {full, []op{{2, first, "other"}}, 7}, {full, []op{{1, first, ""}, {0, "new", ""}}, 0}, {full, []op{{3, first, ""}, {2, "new", ""}}, 0}, {full, []op{{0, "new", ""}, {1, first, ""}}, 14}, {full, []op{{1, "none", ""}, {0, "new", ""}}, 6}, {full, []op{{3, first, ""}, {0, "new", ""}}, 14},
		{vault.New(), []op{{0, "a", "x"}, {2, "a", "y"}, {0, "a", "z"}}, 0}, {vault.New(), []op{{2, "a", "x"}, {2, "a", "x"}}, 7}, {vault.New(), []op{{2, "a", "x"}, {3, "a", ""}, {2, "a", "x"}}, 0}, {vault.New(), []op{{0, "a", "x"}, {3, "a", ""}}, 6}, {vault.New(), []op{{2, "a", "x"}, {1, "a", ""}}, 6},
		{late, ops(1), 14}, {late, []op{{1, "none", ""}}, 6}, {late, []op{{1, first, ""}, {2, "a", ""}, {2, "a", ""}}, 7}, {state{Head: sum("x"), N: 1<<30 - 1}, ops(1), 0},
	} {
		s, err := vault.Apply(x.s, x.l)
		if err != x.err || err != api.OK && !zero(s) || err == api.OK && (vault.Check(s) != api.OK || s.N != x.s.N+1) {
			t.Errorf("%d: %v", i, err)
		}
	}
	one, _ := vault.Apply(vault.New(), []op{{0, "a", "x"}})
	two, err := vault.Apply(one, []op{{0, "a", "y"}})
	if err != api.OK || len(two.Blobs) != 1 || two.N != 2 || two.Blobs[0].Box != "y" || one.Blobs[0].Box != "x" {
		t.Errorf("the example: %v, %v", two, err)
	}
}

func TestBytesAndRead(t *testing.T) {
	for i, s := range states() {
		parts := []string{s.Head, string(binary.BigEndian.AppendUint64(nil, uint64(s.N))), string(binary.BigEndian.AppendUint32(nil, uint32(len(s.Blobs))))}
		for _, x := range append(slices.Clone(s.Blobs), s.Cells...) {
			parts = append(parts, x.Label, x.Box)
		}
		b, err := vault.Bytes(s)
		if err != api.OK || b != code.Join(parts) {
			t.Errorf("state %d: %v", i, err)
		}
		if back, err := vault.Read(b); err != api.OK || !same(back, s) {
			t.Errorf("state %d is not read: %v", i, err)
		}
		for _, wrong := range []string{b + "x", b[:len(b)-1], code.Join(parts[1:]), code.Join(append(slices.Clone(parts), "x"))} {
			if back, err := vault.Read(wrong); err != api.ErrBytes || !zero(back) {
				t.Errorf("state %d, wrong bytes: %v", i, err)
			}
		}
	}
	head, n, none, one := sum("x"), strings.Repeat("\x00", 8), "\x00\x00\x00\x00", "\x00\x00\x00\x01"
	for i, parts := range [][]string{nil, {head}, {head, n}, {head, n[1:], none}, {head, n, none[1:]}, {head, n + "\x00", none}, {head, n, none + "\x00"}, {head[1:], n, none}, {head, n, one}, {head, n, one, "a"}, {head, n, "\xff\xff\xff\xff", "a", "b"}, {head, n, "\x80\x00\x00\x00"}, {head, "\x00\x00\x00\x00\x40\x00\x00\x01", none}, {head, strings.Repeat("\xff", 8), none}, {head, n, "\x00\x00\x00\x02", "b", "", "a", ""}, {head, n, none, "a", "", "a", ""}, {head, n, one, "", ""}, {head, n, none, long(65), ""}, {head, n, none, "a", long(8193)}} {
		if back, err := vault.Read(code.Join(parts)); err != api.ErrBytes || !zero(back) {
			t.Errorf("parts %d: %v, %v", i, back, err)
		}
	}
}

func TestAnswersShareNothing(t *testing.T) {
	s := state{Head: sum("x"), Blobs: make([]item, 1, 5), Cells: make([]item, 1, 5)}
	s.Blobs[0], s.Cells[0] = item{"b", "1"}, item{"b", "2"}
	l := []op{{0, "a", "x"}, {2, "c", "y"}}
	now, _ := vault.Apply(s, l)
	other, _ := vault.Apply(s, []op{{0, "z", "x"}})
	if !same(s, state{Head: sum("x"), Blobs: []item{{"b", "1"}}, Cells: []item{{"b", "2"}}}) || len(now.Blobs) != 2 || now.Blobs[0].Label != "a" || other.Blobs[1].Label != "z" {
		t.Errorf("%v, %v, %v", s, now, other)
	}
	other.Cells[0].Box = "9"
	if s.Cells[0].Box != "2" || now.Cells[0].Box != "2" {
		t.Error("an answer shares with its argument")
	}
}
