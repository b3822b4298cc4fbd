package octet_test

import (
	"encoding/binary"
	"math"
	"math/bits"
	"slices"
	"strings"
	"testing"

	"cryptex/octet"
)

func numbers() []uint64 {
	l := []uint64{0, 1, 255, 256, 258, 0x0102030405060708, math.MaxUint32, math.MaxUint32 + 1, 1 << 63, math.MaxUint64}
	x := uint64(88172645463325252)
	for range 40 {
		x ^= x << 13
		x ^= x >> 7
		x ^= x << 17
		l = append(l, x)
	}
	return l
}

func TestBigAndLowAreTheLastBytes(t *testing.T) {
	for _, n := range numbers() {
		big := string(binary.BigEndian.AppendUint64(nil, n))
		low := string(binary.LittleEndian.AppendUint64(nil, n))
		for _, many := range []int{math.MinInt, -1, 0, 1, 2, 3, 4, 5, 6, 7, 8, 9, 100, math.MaxInt} {
			k := min(max(many, 0), 8)
			if got := octet.Big(n, many); got != big[8-k:] {
				t.Errorf("Big(%d, %d) = %x", n, many, got)
			}
			if got := octet.Low(n, many); got != low[:k] {
				t.Errorf("Low(%d, %d) = %x", n, many, got)
			}
		}
		if octet.ReadBig(big) != n || octet.ReadLow(low) != n {
			t.Errorf("%d is not read again", n)
		}
	}
	if octet.Big(258, 4) != "\x00\x00\x01\x02" {
		t.Error("the example of Big")
	}
}

func TestReadGoesRound(t *testing.T) {
	for _, x := range []struct {
		s        string
		big, low uint64
	}{
		{"", 0, 0}, {"\x07", 7, 7}, {"\x01\x02", 258, 513}, {"\x01\x02\x03", 0x010203, 0x030201},
		{"\xff\x01\x02\x03\x04\x05\x06\x07\x08", 0x0102030405060708, 0x07060504030201ff},
		{strings.Repeat("\xff", 30), math.MaxUint64, math.MaxUint64},
		{"\x00\x00\x00\x00\x00\x00\x00\x00\x05", 5, 0},
		{"\x05\x00\x00\x00\x00\x00\x00\x00\x00", 0, 5},
	} {
		if octet.ReadBig(x.s) != x.big || octet.ReadLow(x.s) != x.low {
			t.Errorf("%x: %x, %x", x.s, octet.ReadBig(x.s), octet.ReadLow(x.s))
		}
	}
}

func TestXorIsAsLongAsTheShorterOne(t *testing.T) {
	for _, x := range [][3]string{{"", "", ""}, {"a", "", ""}, {"", "a", ""}, {"abc", "abc", "\x00\x00\x00"}, {"\xf0\x0f\xaa", "\xff\xff", "\x0f\xf0"}, {"\xff", "\x01\x02", "\xfe"}} {
		if got := octet.Xor(x[0], x[1]); got != x[2] {
			t.Errorf("%x of %x, %x", got, x[0], x[1])
		}
	}
	a, b := "some text of bytes", "another one, longer"
	if octet.Xor(octet.Xor(a, b), b) != a {
		t.Error("twice is not once")
	}
}

func TestRolTurnsAndTurnsBack(t *testing.T) {
	for _, n := range numbers() {
		x := uint32(n)
		for _, by := range []int{math.MinInt, math.MinInt + 1, -65, -64, -40, -33, -32, -31, -16, -1, 0, 1, 5, 16, 31, 32, 33, 63, 64, 70, math.MaxInt} {
			want := bits.RotateLeft32(x, by%32)
			if octet.Rol(x, by) != want {
				t.Errorf("Rol(%x, %d) = %x", x, by, octet.Rol(x, by))
			}
			if octet.Rol(octet.Rol(x, by%64), -(by%64)) != x {
				t.Errorf("%x by %d is not turned back", x, by)
			}
		}
	}
	if octet.Rol(1, -1) != 2147483648 {
		t.Error("the example of Rol")
	}
}

func TestEqualLooksAtAllBytes(t *testing.T) {
	base := "0123456789abcdef\x00\xff"
	if !octet.Equal(base, strings.Clone(base)) || !octet.Equal("", "") {
		t.Error("the same is not equal")
	}
	for i := range len(base) {
		for bit := range 8 {
			l := []byte(base)
			l[i] ^= 1 << bit
			if octet.Equal(base, string(l)) || octet.Equal(string(l), base) {
				t.Errorf("equal, but for bit %d of byte %d", bit, i)
			}
		}
		if octet.Equal(base, base[:i]) || octet.Equal(base[:i], base) {
			t.Errorf("equal to its first %d bytes", i)
		}
	}
	if octet.Equal("\x01\x01", "\x02\x02") || octet.Equal("a", "a\x00") || octet.Equal("", "\x00") {
		t.Error("differences that cancel out")
	}
}

func TestFillIsTheLeastMultiple(t *testing.T) {
	for n := range 40 {
		s := strings.Repeat("x", n)
		for _, size := range []int{math.MinInt, -3, 0} {
			if octet.Fill(s, size) != s {
				t.Errorf("filled up to a multiple of %d", size)
			}
		}
		for size := 1; size < 20; size++ {
			got := octet.Fill(s, size)
			if len(got)%size != 0 || len(got) >= n+size || got[:n] != s || strings.Trim(got[n:], "\x00") != "" {
				t.Errorf("Fill of %d bytes to %d: %q", n, size, got)
			}
		}
	}
	if octet.Fill("", math.MaxInt) != "" {
		t.Error("nothing is a multiple of all")
	}
}

func TestWordsAndText(t *testing.T) {
	s := "\x01\x02\x03\x04\xff\x00\x00\x80tail"
	want := []uint32{0x04030201, 0x800000ff, 0x6c696174}
	for n := range len(s) + 1 {
		got := octet.Words(s[:n])
		if !slices.Equal(got, want[:n/4]) {
			t.Errorf("Words of %d bytes: %x", n, got)
		}
		if octet.Text(got) != s[:n/4*4] {
			t.Errorf("Text of the words of %d bytes", n)
		}
	}
	if octet.Text(nil) != "" || len(octet.Words("abc")) != 0 {
		t.Error("of nothing")
	}
	l := []uint32{1, 2}
	first := octet.Text(l)
	l[0] = 9
	if first != "\x01\x00\x00\x00\x02\x00\x00\x00" || octet.Text(l) == first {
		t.Error("an answer shares with its argument")
	}
	a, b := octet.Words(s), octet.Words(s)
	a[0] = 0
	if b[0] != want[0] || octet.Words(s)[0] != want[0] {
		t.Error("two answers share")
	}
}
