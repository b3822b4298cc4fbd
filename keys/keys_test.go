package keys_test

import (
	"crypto/hkdf"
	"crypto/hmac"
	"crypto/sha256"
	"encoding/binary"
	"math"
	"slices"
	"strings"
	"testing"

	"cryptex/api"
	"cryptex/code"
	"cryptex/keys"
)

func big(n uint64) string { return string(binary.BigEndian.AppendUint64(nil, n)) }

// derived is a key of a key, by the library.
func derived(key string, labels ...string) string {
	info := ""
	for _, l := range labels {
		info += string(binary.BigEndian.AppendUint32(nil, uint32(len(l)))) + l
	}
	out, err := hkdf.Expand(sha256.New, []byte(key), info, 32)
	if err != nil {
		panic(err)
	}
	return string(out)
}

func want(t *testing.T, what string, got keys.Key, err api.Errno, kind string, parts []string, bytes string) {
	t.Helper()
	if err != api.OK || got.Kind != kind || !slices.Equal(got.Parts, parts) || got.Bytes != bytes {
		t.Errorf("%s: %q, %v", what, got, err)
	}
}

func none(t *testing.T, what string, got keys.Key, err api.Errno) {
	t.Helper()
	if err != api.ErrArg || got.Kind != "" || len(got.Parts) != 0 || got.Bytes != "" {
		t.Errorf("%s: %q, %v", what, got, err)
	}
}

func TestKeysOfKeys(t *testing.T) {
	h := hmac.New(sha256.New, []byte("cryptex"))
	h.Write([]byte("seed"))
	seed := string(h.Sum(nil))
	root := keys.Root("seed")
	want(t, "root", root, 0, "root", nil, seed)
	for _, n := range []int{0, 1, 258, math.MaxInt} {
		b := big(uint64(n))
		one := derived(seed, "epoch", b)
		epoch, err := keys.Epoch(root, n)
		want(t, "epoch", epoch, err, "epoch", []string{b}, one)
		two := derived(one, "coll", "books")
		coll, err := keys.Coll(epoch, "books")
		want(t, "coll", coll, err, "coll", []string{b, "books"}, two)
		blob, err := keys.Blob(coll, "id")
		want(t, "blob", blob, err, "blob", []string{b, "books", "id"}, derived(two, "blob", "id"))
		word, err := keys.Word(coll, "a.b", "\x01")
		want(t, "word", word, err, "word", []string{b, "books", "a.b", "\x01"}, derived(two, "word", "a.b", "\x01"))
	}
	for _, n := range []int{-1, math.MinInt} {
		k, err := keys.Epoch(root, n)
		none(t, "an epoch below 0", k, err)
	}
}

func TestWhatMayStandBelow(t *testing.T) {
	bytes := strings.Repeat("k", 32)
	may := map[string]int{"root/epoch": 1, "epoch/coll": 1, "coll/blob": 1, "coll/word": 2}
	kinds := []string{"root", "epoch", "coll", "blob", "word", "", "Epoch", "other"}
	parts := []string{"a", "b", "c", "d"}
	for _, above := range kinds {
		for _, kind := range kinds {
			for n := range 5 {
				k, err := keys.Key{Kind: above, Parts: []string{"x"}, Bytes: bytes}.Down(kind, parts[:n]...)
				if m, ok := may[above+"/"+kind]; ok && m == n {
					want(t, above+"/"+kind, k, err, kind, append([]string{"x"}, parts[:n]...), derived(bytes, append([]string{kind}, parts[:n]...)...))
				} else {
					none(t, above+"/"+kind, k, err)
				}
			}
		}
	}
	for _, n := range []int{0, 31, 33, 64} {
		k, err := keys.Key{Kind: "root", Bytes: strings.Repeat("k", n)}.Down("epoch", "a")
		none(t, "a key of another size", k, err)
	}
	root := keys.Root("")
	k, err := root.Down("word", "a", "b")
	none(t, "a word below a root", k, err)
	k, err = keys.Coll(root, "a")
	none(t, "a collection below a root", k, err)
	k, err = keys.Blob(root, "a")
	none(t, "a blob below a root", k, err)
	k, err = keys.Word(root, "a", "b")
	none(t, "a word below a root", k, err)
	coll := keys.Key{Kind: "coll", Bytes: bytes}
	k, err = keys.Epoch(coll, 1)
	none(t, "an epoch below a collection", k, err)
}

func TestNonce(t *testing.T) {
	for _, n := range []uint64{0, 1, 258, 1 << 40, math.MaxUint64} {
		if keys.Nonce(n) != "\x00\x00\x00\x00"+big(n) {
			t.Errorf("%d: %x", n, keys.Nonce(n))
		}
	}
}

func TestLabelsTellKeysApart(t *testing.T) {
	rows := []keys.Key{{Kind: "a"}, {Kind: "a", Parts: []string{""}}, {Kind: "", Parts: []string{"a"}}, {Kind: "a", Parts: []string{"b", "c"}}, {Kind: "a", Parts: []string{"bc"}}, {Kind: "a", Parts: []string{"c", "b"}}, {Kind: "ab", Parts: []string{"c"}}, {}}
	for i, a := range rows {
		if keys.Label(a) != code.Join(append([]string{a.Kind}, a.Parts...)) {
			t.Errorf("Label of %q: %x", a, keys.Label(a))
		}
		a.Bytes = "x"
		for j, b := range rows {
			if (keys.Label(a) == keys.Label(b)) != (i == j) {
				t.Errorf("%q, %q", a, b)
			}
			b.Bytes = "x"
			if keys.Same(a, b) != (i == j) {
				t.Errorf("Same of %q, %q", a, b)
			}
			b.Bytes = "y"
			if keys.Same(a, b) {
				t.Errorf("Same of %q, %q", a, b)
			}
		}
	}
	if !keys.Same(keys.Key{Parts: []string{}}, keys.Key{}) {
		t.Error("no parts are no parts")
	}
	root := keys.Root("seed")
	seen := map[string]bool{}
	for n := range 3 {
		epoch, _ := keys.Epoch(root, n)
		for _, name := range []string{"a", "b"} {
			coll, _ := keys.Coll(epoch, name)
			blob, _ := keys.Blob(coll, "x")
			word, _ := keys.Word(coll, "x", "y")
			other, _ := keys.Word(coll, "xy", "")
			for _, k := range []keys.Key{blob, word, other} {
				if seen[k.Bytes] || seen[keys.Label(k)] {
					t.Errorf("%q was there", k)
				}
				seen[k.Bytes], seen[keys.Label(k)] = true, true
			}
		}
	}
}

func TestAnswersShareNothing(t *testing.T) {
	parts := make([]string, 1, 9)
	parts[0] = "above"
	k := keys.Key{Kind: "coll", Parts: parts, Bytes: strings.Repeat("k", 32)}
	own := []string{"p", "v"}
	a, _ := k.Down("word", own...)
	b, _ := k.Down("blob", "id")
	own[0] = "x"
	a.Parts[0] = "x"
	if !slices.Equal(parts, []string{"above"}) || !slices.Equal(b.Parts, []string{"above", "id"}) || !slices.Equal(a.Parts[1:], []string{"p", "v"}) {
		t.Errorf("%q, %q, %q", parts, a, b)
	}
}
