package chacha_test

import (
	"encoding/binary"
	"encoding/hex"
	"math"
	"math/bits"
	"slices"
	"strings"
	"testing"

	"cryptex/api"
	"cryptex/chacha"
)

func text(n int) string {
	l := make([]byte, n)
	x := uint32(n) + 1
	for i := range l {
		x = x*1664525 + 1013904223
		l[i] = byte(x >> 24)
	}
	return string(l)
}

func unhex(s string) string {
	b, err := hex.DecodeString(s)
	if err != nil {
		panic(err)
	}
	return string(b)
}

func quarter(a, b, c, d *uint32) {
	for i, n := range []int{16, 12, 8, 7} {
		if i%2 == 0 {
			*a += *b
			*d = bits.RotateLeft32(*d^*a, n)
		} else {
			*c += *d
			*b = bits.RotateLeft32(*b^*c, n)
		}
	}
}

func rounds(l []uint32) []uint32 {
	x := slices.Clone(l)
	for range 10 {
		for i := range 4 {
			quarter(&x[i], &x[4+i], &x[8+i], &x[12+i])
		}
		for i := range 4 {
			quarter(&x[i], &x[4+(i+1)%4], &x[8+(i+2)%4], &x[12+(i+3)%4])
		}
	}
	return x
}

func words(s string) []uint32 {
	var l []uint32
	for i := 0; i+4 <= len(s); i += 4 {
		l = append(l, binary.LittleEndian.Uint32([]byte(s[i:])))
	}
	return l
}

func block(key, nonce string, n uint32) string {
	x := append(append(append(words("expand 32-byte k"), words(key)...), n), words(nonce)...)
	y := rounds(x)
	var out []byte
	for i := range x {
		out = binary.LittleEndian.AppendUint32(out, x[i]+y[i])
	}
	return string(out)
}

var sunscreen = "Ladies and Gentlemen of the class of '99: If I could offer you only one tip for the future, sunscreen would be it."

func TestQuarterAndBack(t *testing.T) {
	if got := chacha.Quarter(chacha.Four{0x11111111, 0x01020304, 0x9b8d6f43, 0x01234567}); got != (chacha.Four{0xea2a92f4, 0xcb1cf8ce, 0x4581472e, 0x5881c4bb}) {
		t.Errorf("the example: %x", got)
	}
	l := words(text(800))
	for i := 0; i+4 <= len(l); i += 4 {
		x := chacha.Four(l[i : i+4])
		want := x
		quarter(&want[0], &want[1], &want[2], &want[3])
		if chacha.Quarter(x) != want || chacha.Unquarter(want) != x || chacha.Quarter(chacha.Unquarter(x)) != x {
			t.Errorf("of %x", x)
		}
	}
}

func TestRoundsAndBack(t *testing.T) {
	for n := range 40 {
		l := words(text(4 * n))
		keep := slices.Clone(l)
		got, back := chacha.Rounds(l), chacha.Unrounds(l)
		if !slices.Equal(l, keep) {
			t.Error("the argument was changed")
		}
		if n != 16 && (len(got) != 0 || len(back) != 0) {
			t.Errorf("of %d numbers: %x, %x", n, got, back)
		}
	}
	for n := range 20 {
		l := words(text(64 + n))[:16]
		if n == 0 {
			l = make([]uint32, 16)
		}
		got := chacha.Rounds(l)
		if !slices.Equal(got, rounds(l)) || !slices.Equal(chacha.Unrounds(got), l) || !slices.Equal(chacha.Rounds(chacha.Unrounds(l)), l) {
			t.Errorf("of %x", l)
		}
	}
}

func TestBlock(t *testing.T) {
	key := text(32)
	for _, n := range []uint32{0, 1, 2, 1 << 31, math.MaxUint32} {
		got, err := chacha.Block(key, text(12), n)
		if err != api.OK || got != block(key, text(12), n) {
			t.Errorf("block %d: %x, %v", n, got, err)
		}
	}
	standard := unhex("000102030405060708090a0b0c0d0e0f101112131415161718191a1b1c1d1e1f")
	got, _ := chacha.Block(standard, unhex("000000090000004a00000000"), 1)
	if got != unhex("10f1e7e4d13b5915500fdd1fa32071c4c7d1f4c733c068030422aa9ac3d46c4ed2826446079faa0914c2d705d98b02a2b5129cd1de164eb9cbd083e8a2503c4e") {
		t.Errorf("the standard's block: %x", got)
	}
}

func TestWrongKeysAndNonces(t *testing.T) {
	for _, k := range []int{0, 16, 31, 32, 33, 64} {
		for _, n := range []int{0, 8, 11, 12, 13, 24} {
			want := api.ErrArg
			if k == 32 && n == 12 {
				want = api.OK
			}
			b, err := chacha.Block(text(k), text(n), 3)
			s, also := chacha.Turn(text(k), text(n), math.MaxUint32, "text")
			if err != want || also != want || err != api.OK && (b != "" || s != "") {
				t.Errorf("key of %d, nonce of %d: %v, %v", k, n, err, also)
			}
		}
	}
	if _, err := chacha.Turn("", text(12), math.MaxUint32, text(65)); err != api.ErrArg {
		t.Error("ErrArg is told first")
	}
}

func TestTurn(t *testing.T) {
	key, nonce := text(32), text(12)
	for _, n := range []int{0, 1, 63, 64, 65, 128, 200, 1000} {
		for _, from := range []uint32{0, 1, 77, math.MaxUint32 - 100} {
			s := text(n)
			want := []byte(s)
			for i := range want {
				want[i] ^= block(key, nonce, from+uint32(i/64))[i%64]
			}
			got, err := chacha.Turn(key, nonce, from, s)
			if err != api.OK || got != string(want) {
				t.Errorf("%d bytes from %d: %v", n, from, err)
			}
			if back, _ := chacha.Turn(key, nonce, from, got); back != s {
				t.Error("twice is not once")
			}
		}
	}
	got, _ := chacha.Turn(unhex("000102030405060708090a0b0c0d0e0f101112131415161718191a1b1c1d1e1f"), unhex("000000000000004a00000000"), 1, sunscreen)
	if got != unhex("6e2e359a2568f98041ba0728dd0d6981e97e7aec1d4360c20a27afccfd9fae0bf91b65c5524733ab8f593dabcd62b3571639d624e65152ab8f530c359f0861d807ca0dbf500d6a6156a38e088a22b65e52bc514d16ccf806818ce91ab77937365af90bbf74a35be6b40b8eedf2785e42874d") {
		t.Errorf("the standard's text: %x", got)
	}
}

func TestTurnEndsWithTheLastBlock(t *testing.T) {
	key, nonce := text(32), text(12)
	for _, x := range []struct {
		n    uint32
		size int
		want api.Errno
	}{{math.MaxUint32, 64, 0}, {math.MaxUint32, 65, 4}, {math.MaxUint32 - 1, 128, 0}, {math.MaxUint32 - 1, 129, 4}, {math.MaxUint32, 0, 0}, {math.MaxUint32 - 3, 256, 0}, {math.MaxUint32 - 3, 257, 4}} {
		got, err := chacha.Turn(key, nonce, x.n, strings.Repeat("x", x.size))
		if err != x.want || err == api.OK && len(got) != x.size || err != api.OK && got != "" {
			t.Errorf("%d bytes from %d: %v", x.size, x.n, err)
		}
	}
}
