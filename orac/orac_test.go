package orac_test

import (
	"encoding/binary"
	"strings"
	"testing"

	"cryptex/aead"
	"cryptex/mac"
	"cryptex/orac"
)

// drawn is the first n bytes of a tape, and of what is behind it.
func drawn(tape string, n int) string {
	l := []byte(tape)
	for i := uint64(0); len(l) < n; i++ {
		l = binary.BigEndian.AppendUint64(l, i)
	}
	return string(l[:n])
}

var (
	key   = strings.Repeat("k", 32)
	nonce = strings.Repeat("n", 12)
)

func TestReal(t *testing.T) {
	h := orac.Real()
	if h.Mac("key", "text") != mac.Of("key", "text") || h.Mac("", "") != mac.Of("", "") {
		t.Error("Mac")
	}
	want, _ := aead.Seal(key, nonce, "ad", "text")
	box := h.Seal(key, nonce, "ad", "text")
	if box != want || h.Seal(key, nonce, "ad", "text") != want {
		t.Error("Seal")
	}
	if s, ok := h.Open(key, nonce, "ad", box); !ok || s != "text" {
		t.Errorf("Open: %q, %v", s, ok)
	}
	other, _ := aead.Seal(key, nonce, "ad", "never asked")
	if s, ok := h.Open(key, nonce, "ad", other); !ok || s != "never asked" {
		t.Errorf("Open of another's box: %q, %v", s, ok)
	}
	for _, x := range [][4]string{{key, nonce, "", box}, {key, nonce, "ad", box + "x"}, {key, nonce, "ad", ""}, {"", nonce, "ad", box}, {key, "", "ad", box}} {
		if s, ok := h.Open(x[0], x[1], x[2], x[3]); ok || s != "" {
			t.Errorf("Open of %q: %q, %v", x, s, ok)
		}
	}
	if h.Used() != 0 || h.Bad() {
		t.Error("Used, Bad")
	}
	if h.Seal("", nonce, "ad", "text") != "" || h.Seal(key, nonce[1:], "", strings.Repeat("x", 65537)) != "" {
		t.Error("Seal where it has an error")
	}
}

func TestRealBad(t *testing.T) {
	for _, x := range []struct {
		what   string
		second [4]string
		bad    bool
	}{
		{"the same", [4]string{key, nonce, "ad", "text"}, false},
		{"another text", [4]string{key, nonce, "ad", "tex"}, true},
		{"another ad", [4]string{key, nonce, "da", "text"}, true},
		{"another nonce", [4]string{key, "N" + nonce[1:], "ad", "text"}, false},
		{"another key", [4]string{"K" + key[1:], nonce, "ad", "text"}, false},
	} {
		h := orac.Real()
		h.Mac("a", "b")
		h.Mac("a", "c")
		h.Mac("a", "b")
		h.Seal(key, nonce, "ad", "text")
		h.Seal(x.second[0], x.second[1], x.second[2], x.second[3])
		h.Seal("third", nonce, "ad", "text")
		if h.Bad() != x.bad {
			t.Errorf("%s: %v", x.what, h.Bad())
		}
	}
	h := orac.Real()
	h.Mac(key, "x")
	h.Mac(key+"\x00", "x") // a key is filled up by bytes 0: both have one sum
	if !h.Bad() {
		t.Error("one sum answers two questions")
	}
}

func TestIdealDraws(t *testing.T) {
	for _, size := range []int{0, 1, 31, 32, 40, 100} {
		tape := strings.Repeat("a", size)
		all := drawn(tape, 400)
		h, used := orac.Ideal(tape), 0
		next := func(what, got string, n int) {
			if got != all[used:used+n] {
				t.Errorf("tape of %d, %s: %x", size, what, got)
			}
			used += n
			if h.Used() != used {
				t.Errorf("tape of %d, %s: Used %d", size, what, h.Used())
			}
		}
		next("Mac", h.Mac("k", "a"), 32)
		next("Mac of another text", h.Mac("k", "b"), 32)
		next("Seal", h.Seal("k", "n", "ad", "text"), 20)
		next("Mac of another key", h.Mac("l", "a"), 32)
		next("Seal of nothing", h.Seal("k", "m", "ad", ""), 16)
		next("Seal of any size", h.Seal("", "", "", strings.Repeat("x", 50)), 66)
		if h.Mac("k", "a") != all[:32] || h.Mac("l", "a") != all[84:116] || h.Seal("k", "n", "ad", "text") != all[64:84] || h.Used() != used {
			t.Errorf("tape of %d: asked again", size)
		}
		next("Mac that moves the border", h.Mac("ka", ""), 32)
		next("Seal that moves the border", h.Seal("k", "na", "d", "text"), 20)
		h.Open("k", "n", "ad", "box")
		if h.Used() != used {
			t.Error("Open draws")
		}
	}
	h := orac.Ideal(strings.Repeat("a", 40))
	if h.Mac("", "") != strings.Repeat("a", 32) || h.Mac("", "x") != strings.Repeat("a", 8)+"\x00\x00\x00\x00\x00\x00\x00\x00\x00\x00\x00\x00\x00\x00\x00\x01\x00\x00\x00\x00\x00\x00\x00\x02" {
		t.Error("the example")
	}
}

func TestIdealOpens(t *testing.T) {
	h := orac.Ideal("")
	box := h.Seal("k", "n", "ad", "text")
	none := h.Seal("k", "m", "ad", "")
	if s, ok := h.Open("k", "n", "ad", box); !ok || s != "text" {
		t.Errorf("%q, %v", s, ok)
	}
	if s, ok := h.Open("k", "m", "ad", none); !ok || s != "" {
		t.Errorf("%q, %v", s, ok)
	}
	for _, x := range [][4]string{{"k", "n", "ad", none}, {"k", "m", "ad", box}, {"l", "n", "ad", box}, {"k", "n", "a", box}, {"k", "n", "ad", box + "\x00"}, {"k", "n", "ad", box[1:]}, {"k", "n", "ad", ""}, {"kn", "", "ad", box}} {
		if s, ok := h.Open(x[0], x[1], x[2], x[3]); ok || s != "" {
			t.Errorf("%q opens: %q", x, s)
		}
	}
	if h.Bad() {
		t.Error("Bad")
	}
}

func TestIdealBad(t *testing.T) {
	same := strings.Repeat("a", 200)
	for i, x := range []struct {
		tape string
		bad  bool
		acts func(h orac.Handle)
	}{
		{same, true, func(h orac.Handle) { h.Mac("a", "b"); h.Mac("a", "c") }},
		{same, true, func(h orac.Handle) { h.Mac("a", "b"); h.Mac("b", "b") }},
		{same, false, func(h orac.Handle) { h.Mac("a", "b"); h.Mac("a", "b") }},
		{same, true, func(h orac.Handle) { h.Seal("k", "n", "a", "x"); h.Seal("k", "m", "a", "y") }},
		{same, true, func(h orac.Handle) { h.Seal("k", "n", "a", "x"); h.Seal("l", "n", "a", "x") }},
		{same, false, func(h orac.Handle) { h.Seal("k", "n", "a", "x"); h.Seal("k", "m", "a", "xy") }},
		{same, false, func(h orac.Handle) { h.Seal("k", "n", "a", "x"); h.Seal("k", "n", "a", "x") }},
		{same, false, func(h orac.Handle) { h.Mac("k", "n"); h.Seal("k", "n", "a", strings.Repeat("x", 16)) }},
		{"", false, func(h orac.Handle) { h.Mac("a", "b"); h.Mac("a", "c"); h.Seal("a", "b", "", "") }},
		{"", true, func(h orac.Handle) { h.Seal("k", "n", "a", "x"); h.Seal("k", "n", "a", "y") }},
		{"", true, func(h orac.Handle) { h.Seal("k", "n", "a", "x"); h.Seal("k", "n", "b", "x") }},
		{"", true, func(h orac.Handle) {
			h.Seal("k", "n", "a", "x")
			h.Seal("k", "n", "b", "x")
			h.Seal("k", "n", "b", "x")
		}},
		{"", false, func(h orac.Handle) {
			h.Seal("k", "n", "a", "x")
			h.Seal("k", "m", "a", "x")
			h.Seal("l", "n", "a", "x")
		}},
	} {
		h := orac.Ideal(x.tape)
		if h.Bad() {
			t.Errorf("%d: Bad at first", i)
		}
		x.acts(h)
		if h.Bad() != x.bad {
			t.Errorf("%d: %v", i, h.Bad())
		}
	}
	h := orac.Ideal(same)
	h.Seal("k", "n", "a", "x")
	box := h.Seal("k", "n", "a", "y")
	if s, ok := h.Open("k", "n", "a", box); !ok || s != "x" {
		t.Errorf("not what the first Seal sealed: %q, %v", s, ok)
	}
}

func TestHandlesAreTheirOwn(t *testing.T) {
	a, b := orac.Ideal("tape"), orac.Ideal("tape")
	a.Mac("k", "x")
	if b.Used() != 0 || b.Mac("k", "y") != drawn("tape", 32) {
		t.Error("two handles share a tape")
	}
	r, s := orac.Real(), orac.Real()
	r.Seal(key, nonce, "", "x")
	s.Seal(key, nonce, "", "y")
	if r.Bad() || s.Bad() {
		t.Error("two handles share what was asked")
	}
}
