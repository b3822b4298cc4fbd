package chain_test

import (
	"encoding/binary"
	"math"
	"slices"
	"strings"
	"testing"

	"cryptex/api"
	"cryptex/chain"
	"cryptex/keys"
	"cryptex/orac"
	"cryptex/sample"
)

// logged is a handle that notes what it is asked.
type logged struct {
	orac.Handle
	log []string
}

func (x *logged) note(l ...string) { x.log = append(x.log, strings.Join(l, "|")) }

func (x *logged) Mac(key, s string) string {
	x.note("mac", key, s)
	return x.Handle.Mac(key, s)
}

func (x *logged) Seal(key, nonce, ad, s string) string {
	x.note("seal", key, nonce, ad, s)
	return x.Handle.Seal(key, nonce, ad, s)
}

func (x *logged) Open(key, nonce, ad, box string) (string, bool) {
	x.note("open", key, nonce, ad, box)
	return x.Handle.Open(key, nonce, ad, box)
}

func big(n int) string { return string(binary.BigEndian.AppendUint64(nil, uint64(n))) }

func inside(gone byte, id string) string {
	return string([]byte{gone, byte(len(id))}) + id + strings.Repeat("\x00", 16-len(id))
}

// cell is where a cell lies, the box's key, and what is asked for it, by another handle of the same tape.
func cell(h orac.Handle, key string, g, i int) (label, boxKey string, asked []string) {
	own := h.Mac(key, "gen"+big(g))
	asked = []string{"mac|" + key + "|gen" + big(g), "mac|" + own + "|label" + big(i), "mac|" + own + "|box"}
	return h.Mac(own, "label"+big(i)), h.Mac(own, "box"), asked
}

func handles() map[string]func() orac.Handle {
	return map[string]func() orac.Handle{"real": orac.Real, "ideal": func() orac.Handle { return orac.Ideal("some tape") }}
}

func word(l ...int) chain.Word { return chain.Word{Counts: l} }

func many(n, of int) []int { return slices.Repeat([]int{of}, n) }

func wrong() []chain.Word {
	return []chain.Word{word(-1), word(201), word(0, 0, math.MaxInt), word(math.MinInt), word(many(21, 0)...), word(many(21, 1)...), word(1, -1, 1)}
}

func TestCheckAndTotal(t *testing.T) {
	for _, x := range []struct {
		w chain.Word
		n int
	}{{word(), 0}, {word(0), 0}, {word(200), 200}, {word(1, 0, 3), 4}, {word(many(20, 200)...), 4000}, {word(many(20, 0)...), 0}} {
		if err := chain.Check(x.w); err != api.OK || chain.Total(x.w) != x.n {
			t.Errorf("%v: %v, %d", x.w, err, chain.Total(x.w))
		}
	}
	for _, w := range wrong() {
		if chain.Check(w) != api.ErrArg || chain.Total(w) != 0 {
			t.Errorf("%v may be", w)
		}
	}
}

func TestAdd(t *testing.T) {
	for name, handle := range handles() {
		for _, x := range []struct {
			w    chain.Word
			g, i int
			want []int
		}{{word(), 0, 0, []int{1}}, {word(0), 0, 0, []int{1}}, {word(5), 0, 5, []int{6}}, {word(3, 0), 1, 0, []int{3, 1}}, {word(200, 199), 1, 199, []int{200, 200}}, {word(many(20, 7)...), 19, 7, append(many(19, 7), 8)}} {
			for _, gone := range []bool{false, true} {
				for _, id := range []string{"", "id", strings.Repeat("x", 16), "a\x00"} {
					h, other := &logged{Handle: handle()}, handle()
					keep := slices.Clone(x.w.Counts)
					w, c, err := chain.Add(h, "key", x.w, gone, id)
					label, boxKey, asked := cell(other, "key", x.g, x.i)
					text := inside(map[bool]byte{true: 1}[gone], id)
					box := other.Seal(boxKey, keys.Nonce(uint64(x.i)), label, text)
					asked = append(asked, strings.Join([]string{"seal", boxKey, keys.Nonce(uint64(x.i)), label, text}, "|"))
					if err != api.OK || !slices.Equal(w.Counts, x.want) || c.Label != label || c.Box != box || !slices.Equal(h.log, asked) || !slices.Equal(x.w.Counts, keep) {
						t.Errorf("%s, %v, %q: %v, %v, %q", name, x.w, id, w, err, h.log)
					}
				}
			}
		}
	}
}

func TestAddErrors(t *testing.T) {
	long := strings.Repeat("x", 17)
	type row struct {
		w   chain.Word
		id  string
		err api.Errno
	}
	rows := []row{{word(200), long, 1}, {word(200), "id", 4}, {word(1, 200), "id", 4}, {word(), long, 1}}
	for _, w := range wrong() {
		rows = append(rows, row{w, long, 1}, row{w, "id", 1})
	}
	for _, x := range rows {
		h := &logged{Handle: orac.Real()}
		if w, c, err := chain.Add(h, "key", x.w, false, x.id); err != x.err || len(w.Counts) != 0 || c != (chain.Cell{}) || len(h.log) != 0 {
			t.Errorf("%v, %q: %v, %v, %v, %q", x.w, x.id, w, c, err, h.log)
		}
	}
}

func TestTokensAndWalk(t *testing.T) {
	for name, handle := range handles() {
		for _, w := range []chain.Word{word(), word(0, 0), word(3), word(0, 2, 0, 1, 0), word(many(20, 10)...)} {
			h, other := &logged{Handle: handle()}, handle()
			var want []chain.Token
			var asked []string
			for g, n := range w.Counts {
				if n > 0 {
					want = append(want, chain.Token{Key: other.Mac("key", "gen"+big(g)), N: n})
					asked = append(asked, "mac|key|gen"+big(g))
				}
			}
			got, err := chain.Tokens(h, "key", w)
			if err != api.OK || !slices.Equal(got, want) || !slices.Equal(h.log, asked) {
				t.Errorf("%s, %v: %v, %v", name, w, got, err)
			}
			for _, token := range got {
				labels, err := chain.Walk(h, token)
				var want []string
				for i := range token.N {
					want = append(want, other.Mac(token.Key, "label"+big(i)))
				}
				if err != api.OK || !slices.Equal(labels, want) {
					t.Errorf("%s, %v: %v", name, token, err)
				}
			}
		}
	}
	for _, w := range wrong() {
		if l, err := chain.Tokens(orac.Real(), "key", w); err != api.ErrArg || len(l) != 0 {
			t.Errorf("Tokens of %v: %v", w, err)
		}
	}
	for n, want := range map[int]api.Errno{-1: 1, 0: 0, 200: 0, 201: 1, math.MaxInt: 1, math.MinInt: 1} {
		h := &logged{Handle: orac.Ideal("")}
		if l, err := chain.Walk(h, chain.Token{Key: "key", N: n}); err != want || err == api.OK && len(l) != n || err != api.OK && (len(l) != 0 || len(h.log) != 0) {
			t.Errorf("Walk of %d: %d, %v", n, len(l), err)
		}
	}
}

func TestSearched(t *testing.T) {
	for _, x := range []struct{ w, want chain.Word }{{word(), word()}, {word(0), word(0)}, {word(1), word(1, 0)}, {word(1, 0), word(1, 0)}, {word(0, 2), word(0, 2, 0)}, {word(many(19, 1)...), word(append(many(19, 1), 0)...)}, {word(many(20, 1)...), word(many(20, 1)...)}, {word(201), word(201)}, {word(-1, 1), word(-1, 1)}, {word(many(21, 1)...), word(many(21, 1)...)}} {
		got := chain.Searched(x.w)
		if !slices.Equal(got.Counts, x.want.Counts) {
			t.Errorf("%v: %v", x.w, got)
		}
		for i := range got.Counts {
			got.Counts[i] = -7
		}
		if slices.Contains(x.w.Counts, -7) {
			t.Error("an answer shares with its argument")
		}
	}
}

// filled is a word, and its boxes, behind some ids; one behind a `-` is gone, and a `?` is a search.
func filled(h orac.Handle, ids ...string) (chain.Word, []string) {
	var w chain.Word
	var boxes []string
	for _, id := range ids {
		if id == "?" {
			w = chain.Searched(w)
			continue
		}
		id, gone := strings.CutPrefix(id, "-")
		var c chain.Cell
		w, c, _ = chain.Add(h, "key", w, gone, id)
		boxes = append(boxes, c.Box)
	}
	return w, boxes
}

func TestIds(t *testing.T) {
	for name, handle := range handles() {
		for _, x := range []struct{ acts, want string }{
			{"", ""}, {"a", "a"}, {"b a", "a b"}, {"a b -a", "b"}, {"a -a", ""}, {"a -a a", "a"}, {"a a -a", ""}, {"-a", ""}, {"-a a", "a"}, {"a ? b ? -a ? c", "b c"}, {"? a ? ? -b ? b", "a b"}, {"c a b a", "a b c"}, {"sixteen-bytes-id a -a", "sixteen-bytes-id"}, {"sixteen-bytes-id -sixteen-bytes-id", ""},
		} {
			h := handle()
			w, boxes := filled(h, strings.Fields(x.acts)...)
			got, err := chain.Ids(h, "key", w, boxes)
			if err != api.OK || strings.Join(got, " ") != x.want {
				t.Errorf("%s, %q: %q, %v", name, x.acts, got, err)
			}
		}
	}
}

func TestIdsOfWrongBoxes(t *testing.T) {
	for name, handle := range handles() {
		h := handle()
		w, boxes := filled(h, "a", "b", "?", "c", "-a")
		fails := func(what string, w chain.Word, boxes []string) {
			if l, err := chain.Ids(h, "key", w, boxes); err != api.ErrOpen || len(l) != 0 {
				t.Errorf("%s, %s: %q, %v", name, what, l, err)
			}
		}
		fails("one is missing", w, boxes[:3])
		fails("one more", w, append(slices.Clone(boxes), boxes[0]))
		fails("none", w, nil)
		for i := range boxes {
			for j := range boxes {
				if i != j {
					l := slices.Clone(boxes)
					l[i] = boxes[j]
					fails("another one's", w, l)
				}
			}
			l := slices.Clone(boxes)
			l[i] = ""
			fails("an empty one", w, l)
		}
		fails("other generations", word(3, 1), boxes)
		if l, err := chain.Ids(h, "another key", w, boxes); err != api.ErrOpen || len(l) != 0 {
			t.Errorf("%s, another key: %q, %v", name, l, err)
		}
		for _, w := range wrong() {
			if l, err := chain.Ids(h, "key", w, boxes); err != api.ErrArg || len(l) != 0 {
				t.Errorf("%v: %q, %v", w, l, err)
			}
		}
		for i, text := range []string{"", "\x00\x00", inside(0, "a")[:17], inside(0, "a") + "\x00", inside(2, "a"), "\x00\x11" + strings.Repeat("x", 16), "\x00\x01ab" + strings.Repeat("\x00", 14), "\x00\xff" + strings.Repeat("\x00", 16)} {
			h := handle()
			label, boxKey, _ := cell(h, "key", 0, 0)
			box := h.Seal(boxKey, keys.Nonce(0), label, text)
			if l, err := chain.Ids(h, "key", word(1), []string{box}); err != api.ErrOpen || len(l) != 0 {
				t.Errorf("%s, text %d: %q, %v", name, i, l, err)
			}
		}
	}
}

func TestIdsAsksInOrder(t *testing.T) {
	h := &logged{Handle: orac.Ideal("tape")}
	w, boxes := filled(h, "a", "b", "?", "c")
	var want []string
	for n, at := range [][2]int{{0, 0}, {0, 1}, {1, 0}} {
		label, boxKey, asked := cell(h.Handle, "key", at[0], at[1])
		want = append(append(want, asked...), strings.Join([]string{"open", boxKey, keys.Nonce(uint64(at[1])), label, boxes[n]}, "|"))
	}
	h.log = nil
	if _, err := chain.Ids(h, "key", w, boxes); err != api.OK || !slices.Equal(h.log, want) {
		t.Errorf("%q", h.log)
	}
	h.log = nil
	boxes[1] += "x"
	want = append(want[:7], want[7]+"x")
	if _, err := chain.Ids(h, "key", w, boxes); err != api.ErrOpen || !slices.Equal(h.log, want) {
		t.Errorf("behind one that does not open: %q", h.log)
	}
	h.log = nil
	if _, err := chain.Ids(h, "key", w, boxes[:2]); err != api.ErrOpen || len(h.log) != 0 {
		t.Errorf("of too few: %q", h.log)
	}
}

func TestWhatIsAddedBehindASearchHasNoLabelOfItsTokens(t *testing.T) {
	for name, handle := range handles() {
		h := handle()
		c := sample.NewChance(9)
		var w chain.Word
		told, there := map[string]bool{}, 0
		for range 200 {
			if c.Below(4) == 0 && len(w.Counts) < 19 {
				tokens, _ := chain.Tokens(h, "key", w)
				labels := 0
				for _, token := range tokens {
					l, _ := chain.Walk(h, token)
					for _, label := range l {
						told[label] = true
					}
					labels += len(l)
				}
				if labels != there {
					t.Errorf("%s: %d labels of %d", name, labels, there)
				}
				w = chain.Searched(w)
			}
			var cell chain.Cell
			w, cell, _ = chain.Add(h, "key", w, c.Below(3) == 0, "id")
			there++
			if told[cell.Label] {
				t.Errorf("%s: a token told this label", name)
			}
		}
	}
}
