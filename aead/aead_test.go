package aead_test

import (
	"encoding/binary"
	"encoding/hex"
	"math"
	"strings"
	"testing"

	"cryptex/aead"
	"cryptex/api"
	"cryptex/chacha"
	"cryptex/poly"
)

func text(n int) string {
	l := make([]byte, n)
	x := uint32(n) + 1
	for i := range l {
		x = x*1664525 + 1013904223
		l[i] = byte(x >> 24)
	}
	return string(l)
}

func unhex(s string) string {
	b, err := hex.DecodeString(s)
	if err != nil {
		panic(err)
	}
	return string(b)
}

var sizes = []int{0, 1, 15, 16, 17, 31, 32, 33, 63, 64, 65, 300}

func TestMixed(t *testing.T) {
	for _, n := range sizes {
		for _, m := range sizes {
			ad, box := text(n), text(m)
			want := ad + strings.Repeat("\x00", (16-n%16)%16) + box + strings.Repeat("\x00", (16-m%16)%16)
			want += string(binary.LittleEndian.AppendUint64(binary.LittleEndian.AppendUint64(nil, uint64(n)), uint64(m)))
			if aead.Mixed(ad, box) != want {
				t.Errorf("of %d and %d bytes", n, m)
			}
		}
	}
}

func TestSealedOpens(t *testing.T) {
	key, nonce := text(32), text(12)
	once, _ := chacha.Block(key, nonce, 0)
	for _, n := range sizes {
		for _, m := range sizes {
			ad, s := text(n), text(m)
			box, err := aead.Seal(key, nonce, ad, s)
			turned, _ := chacha.Turn(key, nonce, 1, s)
			tag, _ := poly.Tag(once[:32], aead.Mixed(ad, turned))
			if err != api.OK || box != turned+tag || len(box) != aead.Size(m) {
				t.Fatalf("Seal of %d and %d bytes: %v", n, m, err)
			}
			if got, err := aead.Open(key, nonce, ad, box); err != api.OK || got != s {
				t.Fatalf("Open of %d and %d bytes: %v", n, m, err)
			}
		}
	}
}

func TestStandard(t *testing.T) {
	key := unhex("808182838485868788898a8b8c8d8e8f909192939495969798999a9b9c9d9e9f")
	s := "Ladies and Gentlemen of the class of '99: If I could offer you only one tip for the future, sunscreen would be it."
	box, err := aead.Seal(key, unhex("070000004041424344454647"), unhex("50515253c0c1c2c3c4c5c6c7"), s)
	want := unhex("d31a8d34648e60db7b86afbc53ef7ec2a4aded51296e08fea9e2b5a736ee62d63dbea45e8ca9671282fafb69da92728b1a71de0a9e060b2905d6a5b67ecd3b3692ddbd7f2d778b8c9803aee328091b58fab324e4fad675945585808b4831d7bc3ff4def08e4b7a9de576d26586cec64b61161ae10b594f09e26a7e902ecbd0600691")
	if err != api.OK || box != want {
		t.Errorf("%x, %v", box, err)
	}
}

func TestNothingElseOpens(t *testing.T) {
	key, nonce, ad := text(32), text(12), "beside"
	box, _ := aead.Seal(key, nonce, ad, "a text of some bytes")
	fails := func(what, key, nonce, ad, box string) {
		if s, err := aead.Open(key, nonce, ad, box); err != api.ErrOpen || s != "" {
			t.Errorf("%s: %q, %v", what, s, err)
		}
	}
	for i := range box {
		for bit := range 8 {
			l := []byte(box)
			l[i] ^= 1 << bit
			fails("another bit", key, nonce, ad, string(l))
		}
		fails("a beginning", key, nonce, ad, box[:i])
	}
	fails("longer", key, nonce, ad, box+"\x00")
	fails("another ad", key, nonce, ad+"\x00", box)
	fails("no ad", key, nonce, "", box)
	fails("another key", "x"+key[1:], nonce, ad, box)
	fails("another nonce", key, "x"+nonce[1:], ad, box)
	fails("too large", key, nonce, ad, strings.Repeat("x", 65553))
	turned, _ := chacha.Turn(key, nonce, 1, strings.Repeat("x", 65537))
	once, _ := chacha.Block(key, nonce, 0)
	tag, _ := poly.Tag(once[:32], aead.Mixed(ad, turned))
	fails("what can't be sealed", key, nonce, ad, turned+tag)
}

func TestErrors(t *testing.T) {
	large := strings.Repeat("x", 65537)
	for _, k := range []int{0, 31, 32, 33} {
		for _, n := range []int{0, 11, 12, 13} {
			if k == 32 && n == 12 {
				continue
			}
			for _, s := range []string{"", "text", large} {
				box, err := aead.Seal(text(k), text(n), "ad", s)
				back, also := aead.Open(text(k), text(n), "ad", s)
				if err != api.ErrArg || also != api.ErrArg || box != "" || back != "" {
					t.Errorf("key of %d, nonce of %d: %v, %v", k, n, err, also)
				}
			}
		}
	}
	if box, err := aead.Seal(text(32), text(12), "", large); err != api.ErrLarge || box != "" {
		t.Errorf("too large: %v", err)
	}
	box, err := aead.Seal(text(32), text(12), "", large[1:])
	if err != api.OK || len(box) != 65552 {
		t.Errorf("as large as may be: %v", err)
	}
	if s, err := aead.Open(text(32), text(12), "", box); err != api.OK || s != large[1:] {
		t.Errorf("as large as may be: %v", err)
	}
}

func TestSize(t *testing.T) {
	for n, want := range map[int]int{0: 16, 1: 17, 65536: 65552, 65537: 0, -1: 0, math.MinInt: 0, math.MaxInt: 0} {
		if aead.Size(n) != want {
			t.Errorf("Size(%d) = %d", n, aead.Size(n))
		}
	}
}
