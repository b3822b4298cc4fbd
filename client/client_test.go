package client_test

import (
	"encoding/binary"
	"slices"
	"strconv"
	"strings"
	"testing"

	"cryptex/api"
	"cryptex/chain"
	"cryptex/client"
	"cryptex/code"
	"cryptex/host"
	"cryptex/keys"
	"cryptex/model"
	"cryptex/orac"
	"cryptex/pad"
	"cryptex/sample"
	"cryptex/term"
	"cryptex/vault"
	"cryptex/wire"
)

type act = api.Act

// world is a client, and a server that is honest as long as no test says otherwise.
type world struct {
	t    *testing.T
	h    orac.Handle
	c    *client.Client
	x    host.Host
	m    model.Model
	seen []wire.Request // of the last act
}

func newWorld(t *testing.T, h orac.Handle) *world {
	return &world{t: t, h: h, c: client.New(h, "key"), x: host.New(-1)}
}

// serve lets the server do a request.
func (w *world) serve(req string) string {
	w.t.Helper()
	r, err := wire.GetRequest(req)
	if err != api.OK {
		w.t.Fatalf("no request: %x", req)
	}
	w.seen = append(w.seen, r)
	x, reply, err := host.Do(w.h, w.x, req)
	if err != api.OK {
		w.t.Fatal(err)
	}
	w.x = x
	return reply
}

// none wants that there is no answer beside a request.
func (w *world) none(req string, told model.Answer) {
	w.t.Helper()
	if req != "" && !model.SameAnswer(told, model.Answer{}) {
		w.t.Fatalf("an answer beside a request: %v", told)
	}
	if w.c.State().Waits != (req != "") {
		w.t.Fatal("Waits")
	}
}

// do does an act to its end.
func (w *world) do(a act) model.Answer {
	w.t.Helper()
	w.seen = nil
	req, told := w.c.Begin(a)
	for w.none(req, told); req != ""; w.none(req, told) {
		req, told = w.c.Next(w.serve(req))
	}
	return told
}

// want does an act, and wants the model's answer.
func (w *world) want(a act) {
	w.t.Helper()
	now, want := w.m, model.Answer{}
	if a.Kind < 7 {
		now, want = model.Do(w.m, a)
	}
	if got := w.do(a); !model.SameAnswer(got, want) {
		w.t.Fatalf("%v: %v, want %v", a, got, want)
	}
	w.m = now
}

// until does an act up to a request, that is the last one it is asked for, and does not reply.
func (w *world) until(a act, requests int) string {
	w.t.Helper()
	w.seen = nil
	req, told := w.c.Begin(a)
	for i := 1; i < requests; i++ {
		req, told = w.c.Next(w.serve(req))
	}
	if w.none(req, told); req == "" {
		w.t.Fatalf("%v: no request %d, but %v", a, requests, told)
	}
	return req
}

// kinds are those of the requests of the last act.
func (w *world) kinds() string {
	out := ""
	for _, r := range w.seen {
		out += strconv.Itoa(r.Kind)
	}
	return out
}

// labels wants that the client knows all labels that the server has.
func (w *world) labels() {
	w.t.Helper()
	used := w.h.Used()
	blobs, cells := w.c.Labels()
	if w.h.Used() != used {
		w.t.Error("Labels draws")
	}
	of := func(l []vault.Item) []string {
		var out []string
		for _, x := range l {
			out = append(out, x.Label)
		}
		return out
	}
	if !slices.Equal(blobs, of(w.x.State.Blobs)) || !slices.Equal(cells, of(w.x.State.Cells)) {
		w.t.Errorf("%d and %d labels, the server has %d and %d", len(blobs), len(cells), len(w.x.State.Blobs), len(w.x.State.Cells))
	}
}

func create(coll string, paths ...string) act { return act{Kind: 0, Coll: coll, Paths: paths} }
func insert(id, text string) act              { return act{Kind: 1, Coll: "c", Id: id, Text: text} }
func replace(id, text string) act             { return act{Kind: 2, Coll: "c", Id: id, Text: text} }
func change(id, path, text string) act {
	return act{Kind: 3, Coll: "c", Id: id, Path: path, Text: text}
}
func remove(id string) act { return act{Kind: 4, Coll: "c", Id: id} }
func tell(id string) act   { return act{Kind: 5, Coll: "c", Id: id} }

var (
	rotate = act{Kind: 7}
	resync = act{Kind: 8}
)

func eq(p, v string) act {
	return act{Kind: 6, Coll: "c", Find: api.Find{Where: []api.Q{{Op: api.OpEq, Path: p, Value: sample.Value(v)}}}}
}

func all() act { return act{Kind: 6, Coll: "c"} }

func handles() map[string]func() orac.Handle {
	return map[string]func() orac.Handle{"real": orac.Real, "ideal": func() orac.Handle { return orac.Ideal(sample.NewChance(1).Bytes(50000)) }, "of nothing": func() orac.Handle { return orac.Ideal("") }}
}

// each does a test with each handle.
func each(t *testing.T, test func(w *world)) {
	for name, h := range handles() {
		t.Run(name, func(t *testing.T) {
			w := newWorld(t, h())
			test(w)
			if w.h.Bad() {
				t.Error("the handle is bad")
			}
		})
	}
}

// keyring is the keys of a real client's store.
type keyring struct{ coll string }

func newKeyring(epoch int, coll string) keyring {
	h := orac.Real()
	root := h.Mac(keys.Root("key").Bytes, "epoch"+string(binary.BigEndian.AppendUint64(nil, uint64(epoch))))
	return keyring{h.Mac(root, "coll"+coll)}
}

func (k keyring) blob(id string) (label, key string) {
	h := orac.Real()
	own := h.Mac(k.coll, "blob"+id)
	return h.Mac(own, "label"), h.Mac(own, "box")
}

func (k keyring) word(p, v string) string {
	w, _ := term.Word(p, sample.Value(v))
	return orac.Real().Mac(k.coll, "word"+w)
}

// document is what a box holds, and its version.
func (k keyring) document(id, box string) ([]api.Node, int) {
	label, key := k.blob(id)
	for version := range 50 {
		if s, ok := orac.Real().Open(key, keys.Nonce(uint64(version)), label, box); ok {
			bytes, _ := pad.Unpad(s)
			v, _ := code.Get(bytes)
			return v, version
		}
	}
	return nil, -1
}

func TestNew(t *testing.T) {
	w := newWorld(t, orac.Ideal("tape"))
	if w.c.State() != (client.State{Head: vault.New().Head}) {
		t.Errorf("%v", w.c.State())
	}
	w.labels()
	w.want(create("c"))
	w.want(create("c"))
	if w.kinds() != "" {
		t.Error("a collection is asked for")
	}
}

func TestRequestsOfActs(t *testing.T) {
	each(t, func(w *world) {
		for i, x := range []struct {
			a     act
			kinds string
		}{
			{insert("1", `{}`), ""}, {create("c", "a", "b"), ""}, {create("c"), ""}, {insert("", `{}`), ""}, {insert("1", `{`), ""},
			{insert("1", `{"a":[1,2],"b":1}`), "0"}, {insert("1", `{}`), ""}, {tell("1"), "1"}, {tell("2"), ""}, {replace("2", `{}`), ""}, {replace("1", `[]`), ""}, {replace("1", `{"a":[2,3]}`), "10"},
			{change("2", "..", "{"), ""}, {change("1", "..", "{"), ""}, {change("1", "..", "1"), ""}, {change("1", "..", ""), ""}, {change("1", "", ""), ""}, {change("1", "x", ""), "1"}, {change("1", "x.y", "1"), "1"}, {change("1", "a[0]", "7"), "10"}, {change("1", "a", ""), "10"},
			{insert("2", `{"a":5}`), "0"}, {insert("3", `{"a":5,"b":6}`), "0"}, {remove("4"), ""}, {remove("1"), "10"}, {all(), "11"}, {eq("x", "1"), "11"}, {eq("a", "5"), "211"}, {eq("b", "6"), "21"}, {eq("b", "7"), ""}, {eq("a", "[5]"), "11"}, {remove("3"), "10"}, {eq("b", "6"), "2"}, {eq("a", "7"), "2"},
			{act{Kind: 6, Coll: "c", Find: api.Find{Limit: -1}}, ""}, {act{Kind: 6, Coll: "d"}, ""}, {act{Kind: 9}, ""}, {act{Kind: -1}, ""}, {resync, "3"}, {rotate, "10"}, {rotate, "0"}, {rotate, "10"}, {rotate, "0"}, {all(), "1"}, {remove("2"), "10"}, {all(), ""}, {rotate, "0"}, {rotate, ""},
		} {
			if x.a.Kind < 0 || x.a.Kind > 8 {
				if told := w.do(x.a); told.Err != api.ErrArg {
					w.t.Errorf("%d: %v", i, told)
				}
			} else {
				w.want(x.a)
			}
			if w.kinds() != x.kinds {
				w.t.Fatalf("%d, %v: requests %s, want %s", i, x.a, w.kinds(), x.kinds)
			}
			w.labels()
		}
	})
}

func TestWhatTheServerHas(t *testing.T) {
	w := newWorld(t, orac.Real())
	w.want(create("c", "a"))
	k := newKeyring(0, "c")
	var words [5]chain.Word
	cell := func(v int, gone bool, id string) vault.Op {
		now, c, _ := chain.Add(orac.Real(), k.word("a", strconv.Itoa(v)), words[v], gone, id)
		words[v] = now
		return vault.Op{Kind: 2, Label: c.Label, Box: c.Box}
	}
	version := -1
	check := func(a act, id, text string, before []vault.Op, cells ...vault.Op) {
		t.Helper()
		w.want(a)
		ops := w.seen[len(w.seen)-1].Ops
		label, _ := k.blob(id)
		if text != "" {
			before = append(before, vault.Op{Kind: 0, Label: label})
		}
		if len(ops) != len(before)+len(cells) {
			t.Fatalf("%v: %d ops", a, len(ops))
		}
		for i, o := range append(before, cells...) {
			if o.Kind == 0 {
				v, n := k.document(id, ops[i].Box)
				want, _ := model.Tree(text)
				if !slices.Equal(v, want) || n <= version {
					t.Errorf("%v: %v of version %d", a, v, n)
				}
				version = n
				o.Box = ops[i].Box
			}
			if ops[i] != o {
				t.Errorf("%v, op %d: %v", a, i, ops[i])
			}
		}
	}
	label, _ := k.blob("x")
	took := []vault.Op{{Kind: 1, Label: label}}
	check(insert("x", `{"a":[2,1]}`), "x", `{"a":[2,1]}`, nil, cell(1, false, "x"), cell(2, false, "x"))
	check(replace("x", `{"a":[3,2]}`), "x", `{"a":[3,2]}`, nil, cell(3, false, "x"), cell(1, true, "x"))
	check(change("x", "a", "[4,1]"), "x", `{"a":[4,1]}`, nil, cell(1, false, "x"), cell(4, false, "x"), cell(2, true, "x"), cell(3, true, "x"))
	check(remove("x"), "x", "", took, cell(1, true, "x"), cell(4, true, "x"))
	check(insert("x", `{"a":1}`), "x", `{"a":1}`, nil, cell(1, false, "x"))
	w.want(eq("a", "1"))
	words[1] = chain.Searched(words[1])
	tokens, _ := chain.Tokens(orac.Real(), k.word("a", "1"), words[1])
	if !slices.Equal(w.seen[0].Tokens, tokens) || w.seen[1].Label != label {
		t.Errorf("a search: %v", w.seen)
	}
	check(replace("x", `{"a":[1,2]}`), "x", `{"a":[1,2]}`, nil, cell(2, false, "x"))
	check(remove("x"), "x", "", took, cell(1, true, "x"), cell(2, true, "x"))
	w.want(insert("x", `{"a":[3,1],"b":2}`))
	w.labels()
	_, last := k.document("x", w.seen[0].Ops[0].Box)
	words, k = [5]chain.Word{}, newKeyring(1, "c")
	version = last
	next, _ := k.blob("x")
	w.want(rotate)
	ops := w.seen[1].Ops
	v, n := k.document("x", ops[1].Box)
	if len(ops) != 4 || ops[0] != took[0] || ops[1].Label != next || !slices.Equal(v, sample.Value(`{"a":[3,1],"b":2}`)) || n <= version || ops[2] != cell(1, false, "x") || ops[3] != cell(3, false, "x") {
		t.Errorf("a rotation: %v", ops)
	}
}

func TestActsOnDocumentsOfAnOlderEpoch(t *testing.T) {
	each(t, func(w *world) {
		w.want(create("c", "a"))
		for _, id := range []string{"1", "2", "3", "4", "5"} {
			w.want(insert(id, `{"a":[1,2]}`))
		}
		w.want(rotate)
		if s := w.c.State(); s.Epoch != 1 || !s.Rotating {
			w.t.Errorf("%v", s)
		}
		ops := func(want string) {
			w.t.Helper()
			got := ""
			for _, o := range w.seen[len(w.seen)-1].Ops {
				got += strconv.Itoa(o.Kind)
			}
			if got != want {
				w.t.Errorf("ops %s, want %s", got, want)
			}
		}
		ops("1022")
		w.want(replace("2", `{"a":[2,3,4]}`))
		ops("10222")
		w.want(replace("2", `{"a":3}`))
		ops("022")
		w.want(change("3", "a", ""))
		ops("10")
		w.want(remove("4"))
		ops("1")
		w.want(insert("4", `{"a":9}`))
		ops("02")
		w.want(remove("2"))
		ops("12")
		w.want(eq("a", "2"))
		if got := w.kinds(); !strings.HasPrefix(got, "221") {
			w.t.Errorf("both epochs are searched: %s", got)
		}
		w.want(eq("a", "1"))
		w.want(rotate)
		ops("1022")
		w.want(rotate)
		ops(strings.Repeat("3", 10))
		if s := w.c.State(); s.Epoch != 1 || s.Rotating {
			w.t.Errorf("%v", s)
		}
		w.want(all())
		w.labels()
	})
}

func TestStateAndCallsOutOfTurn(t *testing.T) {
	each(t, func(w *world) {
		w.want(create("c", "a"))
		w.want(insert("1", `{"a":1}`))
		before := w.c.State()
		if before.N != 1 || before.Head != w.x.State.Head || before.Waits || before.Lost || before.Closed != 0 {
			w.t.Errorf("%v", before)
		}
		out := func(req string, told model.Answer) {
			w.t.Helper()
			if req != "" || told.Err != api.ErrArg || len(told.Docs) != 0 {
				w.t.Errorf("out of turn: %q, %v", req, told)
			}
		}
		out(w.c.Next("x"))
		out("", w.c.Lost())
		if w.c.State() != before {
			w.t.Error("what is out of turn changes something")
		}
		w.until(replace("1", `{"a":2}`), 2)
		for _, a := range []act{tell("1"), resync, rotate, create("d"), {Kind: 99}} {
			out(w.c.Begin(a))
		}
		waits := before
		waits.Waits = true
		if w.c.State() != waits {
			w.t.Errorf("%v", w.c.State())
		}
		if told := w.c.Lost(); told.Err != api.ErrDead {
			w.t.Errorf("%v", told)
		}
		out(w.c.Next(""))
		out("", w.c.Lost())
		lost := before
		lost.Lost = true
		for _, a := range []act{tell("1"), rotate, create("d"), {Kind: 99}, {Kind: -1}} {
			if told := w.do(a); told.Err != api.ErrDead || w.kinds() != "" || w.c.State() != lost {
				w.t.Errorf("lost: %v", told)
			}
		}
		w.want(resync)
		w.want(tell("1"))
		if w.c.State() != before {
			w.t.Errorf("%v", w.c.State())
		}
	})
}

// writes are acts of which the last request is a batch, and how many requests there are.
func writes() map[int][]act {
	return map[int][]act{1: {insert("new", `{"a":[1,7]}`)}, 2: {replace("1", `{"a":[2,8]}`), change("1", "a", "3"), change("1", "a", ""), remove("1"), rotate}}
}

func stocked(t *testing.T, h orac.Handle) *world {
	w := newWorld(t, h)
	w.want(create("c", "a"))
	w.want(insert("1", `{"a":[1,2]}`))
	w.want(insert("2", `{"a":[1,5]}`))
	w.want(replace("1", `{"a":[1,3]}`))
	return w
}

func TestLostBatches(t *testing.T) {
	for name, h := range handles() {
		for requests, acts := range writes() {
			for _, a := range acts {
				for _, done := range []bool{false, true} {
					w := stocked(t, h())
					req := w.until(a, requests)
					if done {
						w.serve(req)
						if a.Kind < 7 {
							w.m, _ = model.Do(w.m, a)
						}
					}
					before := w.c.State()
					if w.c.Lost(); w.c.State().N != before.N {
						t.Error("what is lost is known")
					}
					w.want(resync)
					if w.c.State().Head != w.x.State.Head || w.c.State().N != w.x.State.N || w.c.State().Lost {
						t.Errorf("%s, %v, %v: %v", name, a, done, w.c.State())
					}
					w.labels()
					for _, b := range []act{all(), eq("a", "1"), a, eq("a", "7"), eq("a", "8"), eq("a", "3"), replace("1", `{"a":[9,2]}`), eq("a", "2"), insert("3", `{"a":[1,2,3,7,8]}`), all(), rotate, eq("a", "1"), all()} {
						w.want(b)
					}
					w.labels()
					if w.h.Bad() {
						t.Errorf("%s, %v, %v: bad", name, a, done)
					}
				}
			}
		}
	}
}

func TestWhatIsNotDoneGoesOnInAnotherGeneration(t *testing.T) {
	w := stocked(t, orac.Real())
	var seen []string
	for range 5 {
		req := w.until(insert("3", `{"a":[1,6]}`), 1)
		r, _ := wire.GetRequest(req)
		for _, o := range r.Ops[1:] {
			if slices.Contains(seen, o.Label) {
				t.Error("a label is asked for again")
			}
			seen = append(seen, o.Label)
		}
		w.c.Lost()
		w.want(resync)
	}
	w.want(insert("3", `{"a":[1,6]}`))
	w.want(eq("a", "6"))
	w.want(eq("a", "1"))
	w.labels()
	if w.h.Bad() {
		t.Error("bad")
	}
}

func TestLostReads(t *testing.T) {
	each(t, func(w *world) {
		w.want(create("c", "a"))
		w.want(insert("1", `{"a":1}`))
		for requests, a := range map[int]act{1: tell("1"), 2: eq("a", "1")} {
			w.until(a, requests)
			w.c.Lost()
			req, told := w.c.Begin(resync)
			if w.none(req, told); req == "" {
				w.t.Fatal("no request for the head")
			}
			w.c.Lost()
			if !w.c.State().Lost {
				w.t.Error("a resync that is lost")
			}
			w.want(resync)
			w.want(a)
		}
		before, _ := w.c.Labels()
		w.until(eq("a", "1"), 1)
		w.c.Lost()
		w.want(resync)
		w.want(insert("2", `{"a":1}`))
		after, _ := w.c.Labels()
		if len(before) != 1 || len(after) != 2 {
			w.t.Errorf("%d, %d", len(before), len(after))
		}
		w.want(eq("a", "1"))
	})
}

func TestWhatIsWrittenBehindASearch(t *testing.T) {
	for name, h := range handles() {
		for _, lost := range []bool{false, true} {
			w := stocked(t, h())
			told := map[string]bool{}
			for i := range 12 {
				req, _ := w.c.Begin(eq("a", "1"))
				r, _ := wire.GetRequest(req)
				for _, token := range r.Tokens {
					labels, _ := chain.Walk(w.h, chain.Token{Key: token.Key, N: 200})
					for _, label := range labels {
						told[label] = true
					}
				}
				if lost {
					w.c.Lost()
					w.want(resync)
				} else {
					for req != "" {
						req, _ = w.c.Next(w.serve(req))
					}
				}
				w.want(insert("n"+strconv.Itoa(i), `{"a":[1,4]}`))
				for _, o := range w.seen[0].Ops {
					if told[o.Label] {
						t.Errorf("%s, lost %v: what is written has a label that a token tells", name, lost)
					}
				}
			}
		}
	}
}

func TestWhatIsPutInTellsItsBucketAndItsWords(t *testing.T) {
	each(t, func(w *world) {
		w.want(create("c", "a"))
		for i, n := range []int{0, 20, 25, 26, 100, 300, 600, 1000, 1800} {
			var parts []string
			for left := n; left > 0; left -= 100 {
				parts = append(parts, `"`+strings.Repeat("x", min(left, 100))+`"`)
			}
			text := `{"a":[1,2,` + strconv.Itoa(i+5) + `],"b":[` + strings.Join(parts, ",") + `]}`
			w.want(insert(strconv.Itoa(i), text))
			v, _ := model.Tree(text)
			bytes, _ := code.Put(v)
			ops := w.seen[0].Ops
			if len(ops) != 4 || len(ops[0].Box) != pad.Bucket(len(bytes))+16 {
				w.t.Errorf("%d bytes: %d ops, a box of %d", len(bytes), len(ops), len(ops[0].Box))
			}
			for j, o := range ops {
				if len(o.Label) != 32 || j > 0 && len(o.Box) != 34 {
					w.t.Errorf("%d bytes, op %d: %d, %d", len(bytes), j, len(o.Label), len(o.Box))
				}
			}
		}
	})
}
