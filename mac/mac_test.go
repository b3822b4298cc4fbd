package mac_test

import (
	"crypto/hkdf"
	"crypto/hmac"
	"crypto/sha256"
	"encoding/hex"
	"math"
	"strings"
	"testing"

	"cryptex/api"
	"cryptex/mac"
)

func library(key, s string) string {
	h := hmac.New(sha256.New, []byte(key))
	h.Write([]byte(s))
	return string(h.Sum(nil))
}

func expanded(key, info string, n int) string {
	out, err := hkdf.Expand(sha256.New, []byte(key), info, n)
	if err != nil {
		panic(err)
	}
	return string(out)
}

func TestOfIsTheLibrarys(t *testing.T) {
	for _, n := range []int{0, 1, 31, 32, 63, 64, 65, 100, 128, 200} {
		for _, m := range []int{0, 1, 54, 55, 56, 64, 200} {
			key, s := strings.Repeat("k\x01", n)[:n], strings.Repeat("text", m)[:m]
			if mac.Of(key, s) != library(key, s) || mac.Extract(key, s) != library(key, s) {
				t.Errorf("of a key of %d, a text of %d bytes", n, m)
			}
		}
	}
	if hex.EncodeToString([]byte(mac.Of("Jefe", "what do ya want for nothing?"))) != "5bdcc146bf60754e6a042426089575c75a003f089d2739839dec58b964ec3843" {
		t.Error("the example")
	}
	if mac.Extract("a", "b") == mac.Extract("b", "a") {
		t.Error("salt and text are one")
	}
}

func TestCheckTellsTheTagAlone(t *testing.T) {
	tag := library("key", "s")
	if !mac.Check("key", "s", tag) {
		t.Error("the tag is not told")
	}
	for i := range tag {
		l := []byte(tag)
		l[i] ^= 1
		if mac.Check("key", "s", string(l)) {
			t.Errorf("another one at %d", i)
		}
	}
	if mac.Check("key", "s", "") || mac.Check("key", "s", tag[:31]) || mac.Check("key", "s", tag+"\x00") || mac.Check("kez", "s", tag) || mac.Check("key", "t", tag) {
		t.Error("another tag, key or text")
	}
}

func TestExpand(t *testing.T) {
	for _, key := range []string{"", "a key", strings.Repeat("long", 40)} {
		whole := expanded(key, "info", 8160)
		for _, n := range []int{0, 1, 31, 32, 33, 64, 65, 100, 8128, 8129, 8159, 8160} {
			got, err := mac.Expand(key, "info", n)
			if err != api.OK || got != whole[:n] {
				t.Errorf("%d bytes: %v", n, err)
			}
		}
	}
	for _, n := range []int{-1, 8161, math.MinInt, math.MaxInt} {
		if got, err := mac.Expand("key", "info", n); err != api.ErrArg || got != "" {
			t.Errorf("%d bytes: %q, %v", n, got, err)
		}
		if got, err := mac.Derive("key", n, "a"); err != api.ErrArg || got != "" {
			t.Errorf("Derive of %d bytes: %q, %v", n, got, err)
		}
	}
}

func TestInfoTellsLabelsApart(t *testing.T) {
	long := strings.Repeat("x", 258)
	if mac.Info() != "" || mac.Info("") != "\x00\x00\x00\x00" || mac.Info("ab", "c") != "\x00\x00\x00\x02ab\x00\x00\x00\x01c" || mac.Info(long) != "\x00\x00\x01\x02"+long {
		t.Error("Info")
	}
	rows := [][]string{nil, {""}, {"", ""}, {"ab"}, {"a", "b"}, {"", "ab"}, {"ab", ""}, {"\x00\x00\x00\x00"}, {"b", "a"}}
	for i, a := range rows {
		for j, b := range rows {
			if (mac.Info(a...) == mac.Info(b...)) != (i == j) {
				t.Errorf("%q, %q", a, b)
			}
		}
	}
}

func TestDeriveIsExpandOfInfo(t *testing.T) {
	for _, l := range [][]string{nil, {"a"}, {"epoch", "\x00\x01"}, {"a", "b", "c"}} {
		got, err := mac.Derive("key", 40, l...)
		if err != api.OK || got != expanded("key", mac.Info(l...), 40) {
			t.Errorf("%q: %x, %v", l, got, err)
		}
	}
	l := []string{"a", "b"}
	mac.Derive("key", 32, l...)
	mac.Info(l...)
	if l[0] != "a" || l[1] != "b" {
		t.Error("labels were changed")
	}
}
