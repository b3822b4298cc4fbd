package sha_test

import (
	"crypto/sha256"
	"encoding/binary"
	"encoding/hex"
	"math"
	"strings"
	"testing"

	"cryptex/sha"
)

func text(n int) string {
	l := make([]byte, n)
	x := uint32(n) + 1
	for i := range l {
		x = x*1664525 + 1013904223
		l[i] = byte(x >> 24)
	}
	return string(l)
}

func library(s string) string {
	x := sha256.Sum256([]byte(s))
	return string(x[:])
}

func TestSumIsTheLibrarys(t *testing.T) {
	for n := range 300 {
		if s := text(n); sha.Sum(s) != library(s) {
			t.Errorf("of %d bytes", n)
		}
	}
	if s := text(70000); sha.Sum(s) != library(s) {
		t.Error("of a long text")
	}
	if sha.Hex(sha.Sum("abc")) != "ba7816bf8f01cfea414140de5dae2223b00361a396177a9cb410ff61f20015ad" {
		t.Error("the example")
	}
}

func TestPadFillsBlocks(t *testing.T) {
	for n := range 200 {
		zeros := 0
		for (n+1+zeros+8)%64 != 0 {
			zeros++
		}
		want := "\x80" + strings.Repeat("\x00", zeros) + string(binary.BigEndian.AppendUint64(nil, 8*uint64(n)))
		if sha.Pad(n) != want {
			t.Errorf("Pad(%d) = %x", n, sha.Pad(n))
		}
	}
	for _, n := range []int{-1, -64, math.MinInt} {
		if sha.Pad(n) != "" {
			t.Errorf("Pad(%d) = %x", n, sha.Pad(n))
		}
	}
	for _, n := range []int{math.MaxInt, math.MaxInt - 1, math.MaxInt - 8, math.MaxInt - 9, math.MaxInt - 63, 1 << 61} {
		got := sha.Pad(n)
		bits := uint64(n)
		bits *= 8
		if len(got) < 9 || len(got) > 72 || (uint64(n)+uint64(len(got)))%64 != 0 || binary.BigEndian.Uint64([]byte(got[len(got)-8:])) != bits {
			t.Errorf("Pad(%d) = %x", n, got)
		}
	}
}

func TestHexAndBack(t *testing.T) {
	for n := range 256 {
		s := string([]byte{byte(n), byte(255 - n)})
		if sha.Hex(s) != hex.EncodeToString([]byte(s)) {
			t.Errorf("Hex(%x) = %s", s, sha.Hex(s))
		}
		if got, ok := sha.Unhex(sha.Hex(s)); !ok || got != s {
			t.Errorf("Unhex of Hex of %x: %x, %v", s, got, ok)
		}
		d := string([]byte{byte(n)})
		want := strings.Contains("0123456789abcdef", d)
		for _, x := range []string{d + "0", "0" + d, "00" + d + "7"} {
			got, ok := sha.Unhex(x)
			if ok != want || !ok && got != "" {
				t.Errorf("Unhex(%q) = %q, %v", x, got, ok)
			}
		}
	}
	if got, ok := sha.Unhex(""); got != "" || !ok {
		t.Error("the empty text has a Hex")
	}
	for _, x := range []string{"0", "abc", "0F", "AA", "0x", " 0", "00 "} {
		if got, ok := sha.Unhex(x); ok || got != "" {
			t.Errorf("Unhex(%q) = %q, %v", x, got, ok)
		}
	}
}

func TestStateGoesOn(t *testing.T) {
	x := sha.New()
	if x.Len() != 0 || x.Sum() != library("") {
		t.Error("at first")
	}
	all := ""
	for _, n := range []int{0, 1, 62, 1, 0, 64, 63, 2, 127, 128, 500, 3} {
		s := text(n)
		x.Write(s)
		all += s
		if x.Len() != len(all) || x.Sum() != library(all) || x.Sum() != library(all) {
			t.Errorf("behind %d bytes", len(all))
		}
	}
}

func TestCloneIsAnother(t *testing.T) {
	for _, n := range []int{0, 10, 64, 100} {
		x := sha.New()
		x.Write(text(n))
		y := x.Clone()
		if y.Sum() != x.Sum() || y.Len() != n {
			t.Error("not of the same text")
		}
		y.Write("more")
		if x.Len() != n || x.Sum() != library(text(n)) {
			t.Error("the first one moved as well")
		}
		x.Write("other")
		if y.Sum() != library(text(n)+"more") || x.Sum() != library(text(n)+"other") || y.Len() != n+4 {
			t.Error("they go on together")
		}
	}
}
