package code_test

import (
	"encoding/binary"
	"math"
	"slices"
	"strings"
	"testing"

	"cryptex/api"
	"cryptex/code"
	"cryptex/order"
	"cryptex/sample"
	"cryptex/tree"
)

func text(s string) string {
	out := ""
	for i := range len(s) {
		out += s[i : i+1]
		if s[i] == 0 {
			out += "\xff"
		}
	}
	return out + "\x00\x00"
}

// bytes are a value's bytes once more.
func bytes(l []api.Node) (string, []api.Node) {
	n, rest := l[0], l[1:]
	out := string([]byte{byte(n.Kind) + 1})
	switch n.Kind {
	case api.Bool:
		return out + string([]byte{byte(n.Num)}), rest
	case api.Num:
		return out + string(binary.BigEndian.AppendUint64(nil, uint64(n.Num)+1<<63)), rest
	case api.Text:
		return out + text(n.Text), rest
	case api.Null:
		return out, rest
	}
	for range n.Kids {
		if n.Kind == api.Map {
			out += "\x01" + text(rest[0].Text)
			rest = rest[1:]
		}
		var kid string
		kid, rest = bytes(rest)
		out += kid
	}
	return out + "\x00", rest
}

func values() [][]api.Node {
	l := sample.Values(31, 300)
	for _, n := range []int64{math.MinInt64, -256, -1, 0, 1, 255, math.MaxInt64} {
		l = append(l, sample.Num(n))
	}
	for _, s := range []string{"", "a", "\x00", "\x00\x00", "\x00\xff", "\xff", "a\x00b", strings.Repeat("\x00", 120)} {
		l = append(l, sample.Text(s), sample.List(sample.Text(s), sample.Text(s)), sample.Map(sample.Pair(s, sample.Text(s))))
	}
	return append(l, sample.Deep(32), sample.Wide(120))
}

func TestPutAndGet(t *testing.T) {
	for _, v := range values() {
		want, _ := bytes(v)
		got, err := code.Put(v)
		if err != api.OK || got != want {
			t.Fatalf("Put(%v) = %x, %v", v, got, err)
		}
		back, err := code.Get(got)
		if err != api.OK || !slices.Equal(back, v) {
			t.Fatalf("Get(%x) = %v, %v", got, back, err)
		}
		for _, rest := range []string{"", "\x00", "\x01", "rest\x00\x00", got} {
			first, left, err := code.First(got + rest)
			if err != api.OK || first != got || left != rest {
				t.Errorf("First(%x, %x) = %x, %x, %v", got, rest, first, left, err)
			}
			if rest != "" {
				if back, err := code.Get(got + rest); err != api.ErrBytes || len(back) != 0 {
					t.Errorf("Get with %x behind: %v", rest, err)
				}
			}
		}
		for i := range got {
			back, err := code.Get(got[:i])
			first, left, also := code.First(got[:i])
			if err != api.ErrBytes || also != api.ErrBytes || len(back) != 0 || first != "" || left != "" {
				t.Errorf("a beginning %x: %v, %v", got[:i], err, also)
			}
		}
	}
}

func TestExamples(t *testing.T) {
	for want, v := range map[string][]api.Node{"\x01": sample.Null(), "\x04a\x00\x00": sample.Text("a"), "\x02\x00": sample.Bool(0), "\x02\x01": sample.Bool(1), "\x03\x7f\xff\xff\xff\xff\xff\xff\xff": sample.Num(-1), "\x03\x80\x00\x00\x00\x00\x00\x00\x01": sample.Num(1), "\x05\x00": sample.List(), "\x06\x00": sample.Map(), "\x05\x01\x05\x00\x00": sample.Value("[null,[]]"), "\x06\x01a\x00\x00\x01\x01b\x00\x00\x06\x00\x00": sample.Value(`{"a":null,"b":{}}`)} {
		if got, err := code.Put(v); err != api.OK || got != want {
			t.Errorf("%v: %x, %v", v, got, err)
		}
	}
}

func TestBytesStandInOrder(t *testing.T) {
	l := values()
	for _, a := range l {
		for _, b := range l {
			x, _ := code.Put(a)
			y, _ := code.Put(b)
			if strings.Compare(x, y) != order.Compare(a, b) {
				t.Fatalf("%v, %v", a, b)
			}
		}
	}
}

func TestPutErrors(t *testing.T) {
	for i, v := range append(sample.Wrong(), sample.Deep(33), sample.Wide(121), sample.Text(strings.Repeat("x", 121))) {
		if s, err := code.Put(v); err != tree.Check(v) || err == api.OK || s != "" {
			t.Errorf("wrong %d: %x, %v", i, s, err)
		}
	}
}

func TestNothingElseIsGot(t *testing.T) {
	for _, s := range []string{"", "\x00", "\x07", "\xff", "\x02", "\x02\x02", "\x02\xff", "\x03\x80\x00", "\x04", "\x04\x00", "\x04a\x00\x01\x00\x00", "\x04\x00\xfe\x00\x00", "\x04a\x00", "\x05", "\x05\x01", "\x05\x07\x00", "\x06", "\x06\x01", "\x06\x01a\x00\x00\x00", "\x06\x02\x00", "\x06\x01a\x00\x00\x01", "\x06\x01b\x00\x00\x01\x01a\x00\x00\x01\x00", "\x06\x01a\x00\x00\x01\x01a\x00\x00\x01\x00", "\x06\x01\x00\x00\x01\x01\x00\x00\x01\x00", "\x06\x04a\x00\x00\x01\x00", "\x06\x01\x00\x01\x00\x00\x01\x00"} {
		l, err := code.Get(s)
		first, left, also := code.First(s)
		if err != api.ErrBytes || also != api.ErrBytes || len(l) != 0 || first != "" || left != "" {
			t.Errorf("%x: %v, %v, %x, %v", s, l, err, first, also)
		}
	}
	c := sample.NewChance(3)
	for _, v := range values() {
		s, _ := code.Put(v)
		b := []byte(s)
		b[c.Below(len(b))] = []byte{0, 1, 2, 4, 5, 6, 255, byte(c.Below(256))}[c.Below(8)]
		if l, err := code.Get(string(b)); err == api.OK {
			if back, also := code.Put(l); also != api.OK || back != string(b) {
				t.Errorf("%x is got, but put as %x", b, back)
			}
		} else if err != api.ErrBytes || len(l) != 0 {
			t.Errorf("%x: %v, %v", b, l, err)
		}
	}
}

func TestFirstOfWhatIsTooLarge(t *testing.T) {
	deep := strings.Repeat("\x05", 33) + strings.Repeat("\x00", 33)
	wide := "\x05" + strings.Repeat("\x01", 120) + "\x00"
	long := "\x04" + strings.Repeat("x", 121) + "\x00\x00"
	very := strings.Repeat("\x05", 300000) + strings.Repeat("\x00", 300000)
	for _, s := range []string{deep, wide, long, very} {
		first, left, err := code.First(s + "rest")
		if err != api.OK || first != s || left != "rest" {
			t.Errorf("First of %d bytes: %v", len(s), err)
		}
		if l, err := code.Get(s); err != api.ErrBytes || len(l) != 0 {
			t.Errorf("Get of %d bytes: %v", len(s), err)
		}
		if _, _, err := code.First(s[:len(s)-1]); err != api.ErrBytes {
			t.Errorf("First of a beginning of %d bytes: %v", len(s), err)
		}
	}
	if _, err := code.Get(deep[1:65]); err != api.OK {
		t.Error("as deep as may be")
	}
	if _, err := code.Get(wide[:120] + "\x00"); err != api.OK {
		t.Error("as wide as may be")
	}
}

func TestJoinAndSplit(t *testing.T) {
	for _, l := range [][]string{nil, {""}, {"", ""}, {"a"}, {"a", "b"}, {"ab"}, {"\x00"}, {"\x00\xff", "\xff\x00"}, {"\x04a\x00\x00"}, {strings.Repeat("long\x00", 1000), "x"}} {
		want := ""
		for _, s := range l {
			want += "\x04" + text(s)
		}
		got := code.Join(l)
		if got != want {
			t.Errorf("Join(%q) = %x", l, got)
		}
		back, err := code.Split(got)
		if err != api.OK || !slices.Equal(back, l) {
			t.Errorf("Split of %q: %q, %v", l, back, err)
		}
		for i := 1; i < min(len(got), 50); i++ {
			if back, err := code.Split(got[i:]); err == api.OK && code.Join(back) != got[i:] {
				t.Errorf("Split(%x) = %q", got[i:], back)
			}
		}
	}
	for _, s := range []string{"\x00", "\x04", "\x04a", "\x04a\x00", "\x04a\x00\x01", "\x04a\x00\x00\x00", "\x04a\x00\x00\x01", "\x04a\x00\x00\x02\x01", "\x05\x04a\x00\x00\x00", "\x03\x80\x00\x00\x00\x00\x00\x00\x01", "a"} {
		if l, err := code.Split(s); err != api.ErrBytes || len(l) != 0 {
			t.Errorf("Split(%x) = %q, %v", s, l, err)
		}
	}
}
