package poly_test

import (
	"encoding/hex"
	"math/big"
	"slices"
	"strings"
	"testing"

	"cryptex/api"
	"cryptex/poly"
)

func text(n, seed int) string {
	l := make([]byte, n)
	x := uint32(seed)*7919 + 1
	for i := range l {
		x = x*1664525 + 1013904223
		l[i] = byte(x >> 24)
	}
	return string(l)
}

var prime = new(big.Int).Sub(new(big.Int).Lsh(big.NewInt(1), 130), big.NewInt(5))

func value(s string) *big.Int {
	b := []byte(s[:min(len(s), 17)])
	slices.Reverse(b)
	return new(big.Int).SetBytes(b)
}

func low(x *big.Int, n int) string {
	b := x.FillBytes(make([]byte, 40))
	slices.Reverse(b)
	return string(b[:n])
}

func number(x *big.Int) string { return low(new(big.Int).Mod(x, prime), 17) }

func samples() []string {
	l := []string{"", "\x00", "\x01", "\x05", strings.Repeat("\xff", 16), strings.Repeat("\xff", 17), strings.Repeat("\xff", 20), strings.Repeat("\x00", 17) + "\x09", strings.Repeat("\xff", 8), strings.Repeat("\x00", 8) + "\x01", strings.Repeat("\x00", 16) + "\x01", strings.Repeat("\x00", 16) + "\x04"}
	for d := int64(-7); d < 8; d++ {
		l = append(l, low(new(big.Int).Add(prime, big.NewInt(d)), 17))
	}
	for k := int64(2); k < 65; k *= 2 {
		l = append(l, low(new(big.Int).Mul(prime, big.NewInt(k)), 17))
	}
	for i := range 30 {
		l = append(l, text(i%20, i))
	}
	return l
}

func TestPlusAndTimesAreAsOfNumbers(t *testing.T) {
	l := samples()
	for _, a := range l {
		for _, b := range l {
			x, y := value(a), value(b)
			if got := poly.Plus(a, b); got != number(new(big.Int).Add(x, y)) {
				t.Fatalf("Plus(%x, %x) = %x", a, b, got)
			}
			if got := poly.Times(a, b); got != number(new(big.Int).Mul(x, y)) {
				t.Fatalf("Times(%x, %x) = %x", a, b, got)
			}
		}
	}
}

func TestClamp(t *testing.T) {
	if got := poly.Clamp(strings.Repeat("\xff", 16)); got != "\xff\xff\xff\x0f\xfc\xff\xff\x0f\xfc\xff\xff\x0f\xfc\xff\xff\x0f" {
		t.Errorf("%x", got)
	}
	for i := range 20 {
		r := text(16, i)
		got := poly.Clamp(r)
		if len(got) != 16 || poly.Clamp(got) != got {
			t.Errorf("Clamp(%x) = %x", r, got)
			continue
		}
		for j := range r {
			want := r[j]
			if j%4 == 3 {
				want &= 15
			} else if j%4 == 0 && j > 0 {
				want &= 252
			}
			if got[j] != want {
				t.Errorf("Clamp(%x) = %x", r, got)
			}
		}
	}
	for _, n := range []int{0, 1, 15, 17, 32} {
		if poly.Clamp(text(n, 1)) != "" {
			t.Errorf("of %d bytes", n)
		}
	}
}

func TestParts(t *testing.T) {
	if len(poly.Parts("")) != 0 {
		t.Error("of nothing")
	}
	for n := 1; n < 70; n++ {
		s := text(n, n)
		var want []string
		for i := 0; i < n; i += 16 {
			want = append(want, s[i:min(n, i+16)]+"\x01")
		}
		if !slices.Equal(poly.Parts(s), want) {
			t.Errorf("of %d bytes: %x", n, poly.Parts(s))
		}
	}
}

func tag(key, s string) string {
	r, n := value(poly.Clamp(key[:16])), new(big.Int)
	for i := 0; i < len(s); i += 16 {
		n.Add(n, value(s[i:min(len(s), i+16)]+"\x01"))
		n.Mul(n, r)
		n.Mod(n, prime)
	}
	return low(n.Add(n, value(key[16:])), 16)
}

func TestTag(t *testing.T) {
	keys := []string{strings.Repeat("\xff", 32), strings.Repeat("\x00", 32), "\x02" + strings.Repeat("\x00", 31), strings.Repeat("\x00", 16) + strings.Repeat("\xff", 16), "\x01" + strings.Repeat("\x00", 15) + strings.Repeat("\xff", 16)}
	for i := range 10 {
		keys = append(keys, text(32, i))
	}
	texts := []string{"", "\x00", strings.Repeat("\x00", 16), strings.Repeat("\xff", 16), strings.Repeat("\xff", 48), "\xfb" + strings.Repeat("\xff", 15) + strings.Repeat("\xff", 16)}
	for n := range 40 {
		texts = append(texts, text(n, n))
	}
	texts = append(texts, text(5000, 1))
	for _, key := range keys {
		for _, s := range texts {
			got, err := poly.Tag(key, s)
			if err != api.OK || got != tag(key, s) {
				t.Fatalf("Tag(%x, %x) = %x, %v", key, s, got, err)
			}
		}
	}
	key, _ := hex.DecodeString("85d6be7857556d337f4452fe42d506a80103808afb0db2fd4abff6af4149f51b")
	if got, _ := poly.Tag(string(key), "Cryptographic Forum Research Group"); hex.EncodeToString([]byte(got)) != "a8061dc1305136c6c22b8baf0c0127a9" {
		t.Error("the example")
	}
}

func TestTagMovesAsTheSecondHalfDoes(t *testing.T) {
	key, s := text(32, 3), text(50, 4)
	zero, _ := poly.Tag(key[:16]+strings.Repeat("\x00", 16), s)
	got, _ := poly.Tag(key, s)
	if got != low(new(big.Int).Add(value(zero), value(key[16:])), 16) {
		t.Errorf("%x, %x", zero, got)
	}
}

func TestTagOfWrongKeys(t *testing.T) {
	for _, n := range []int{0, 16, 31, 33, 64} {
		if got, err := poly.Tag(text(n, 1), "text"); err != api.ErrArg || got != "" {
			t.Errorf("a key of %d bytes: %x, %v", n, got, err)
		}
	}
}
