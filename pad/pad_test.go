package pad_test

import (
	"math"
	"slices"
	"strings"
	"testing"

	"cryptex/api"
	"cryptex/pad"
)

var sizes = []int{32, 64, 128, 256, 512, 1024, 2048, 4096}

func bucket(n int) int {
	for _, b := range sizes {
		if n >= 0 && n <= b-2 {
			return b
		}
	}
	return 0
}

func numbers() []int {
	l := []int{math.MinInt, -1, 0, 1, 4093, 4094, 4095, 4096, 5000, math.MaxInt - 1, math.MaxInt}
	for _, b := range sizes {
		l = append(l, b-3, b-2, b-1, b, b+1)
	}
	return l
}

func TestBuckets(t *testing.T) {
	if !slices.Equal(pad.Sizes(), sizes) {
		t.Errorf("%v", pad.Sizes())
	}
	pad.Sizes()[0] = 1
	if !slices.Equal(pad.Sizes(), sizes) || pad.Bucket(0) != 32 {
		t.Error("what is told is what is kept")
	}
	for _, n := range numbers() {
		if pad.Bucket(n) != bucket(n) {
			t.Errorf("Bucket(%d) = %d", n, pad.Bucket(n))
		}
		for _, m := range numbers() {
			if want := bucket(n) != 0 && bucket(n) == bucket(m); pad.Same(n, m) != want {
				t.Errorf("Same(%d, %d) = %v", n, m, pad.Same(n, m))
			}
		}
	}
}

func TestPadAndUnpad(t *testing.T) {
	for _, n := range numbers() {
		if n < 0 || n > 5000 {
			continue
		}
		for _, s := range []string{strings.Repeat("x", n), strings.Repeat("\x00", n)} {
			got, err := pad.Pad(s)
			if bucket(n) == 0 {
				if err != api.ErrLarge || got != "" {
					t.Errorf("%d bytes: %v", n, err)
				}
				continue
			}
			want := string([]byte{byte(n >> 8), byte(n)}) + s + strings.Repeat("\x00", bucket(n)-n-2)
			if err != api.OK || got != want {
				t.Errorf("Pad of %d bytes: %x, %v", n, got, err)
			}
			if back, err := pad.Unpad(got); err != api.OK || back != s {
				t.Errorf("Unpad of %d bytes: %v", n, err)
			}
		}
	}
	if got, _ := pad.Pad("abc"); got != "\x00\x03abc"+strings.Repeat("\x00", 27) {
		t.Error("the example")
	}
}

func TestNothingElseIsUnpadded(t *testing.T) {
	zeros := func(s string, n int) string { return s + strings.Repeat("\x00", n-len(s)) }
	for i, s := range []string{"", "\x00", "\x00\x00", zeros("", 31), zeros("", 33), zeros("\x00\x03abcd", 32), zeros("\x00\x03abc", 31) + "\x01", zeros("\x00\x03abc", 64), zeros("\x00\x1f", 32), zeros("\x00\x20", 32), zeros("\x00\x1e", 64), zeros("\xff\xff", 4096), zeros("\x0f\xff", 4096), zeros("\x07\xfe", 4096), zeros("\x00\x00", 8192), zeros("\x10\x00", 8192), zeros("\x00\x03abc", 48), zeros("\x00\x00\x01", 32)} {
		if back, err := pad.Unpad(s); err != api.ErrBytes || back != "" {
			t.Errorf("%d: %x, %v", i, back, err)
		}
	}
	if back, err := pad.Unpad(zeros("\x00\x1f", 64)); err != api.OK || back != zeros("", 31) {
		t.Errorf("%x, %v", back, err)
	}
}
