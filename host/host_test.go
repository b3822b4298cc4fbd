package host_test

import (
	"slices"
	"strconv"
	"strings"
	"testing"

	"cryptex/api"
	"cryptex/chain"
	"cryptex/disk"
	"cryptex/host"
	"cryptex/orac"
	"cryptex/sample"
	"cryptex/vault"
	"cryptex/wire"
)

type op = vault.Op

func put(t *testing.T, r wire.Request) string {
	t.Helper()
	b, err := wire.PutRequest(r)
	if err != api.OK {
		t.Fatal(err)
	}
	return b
}

func batch(t *testing.T, l ...op) string { return put(t, wire.Request{Ops: l}) }

// counted is a handle that counts what it is asked.
type counted struct {
	orac.Handle
	n int
}

func (c *counted) Mac(key, s string) string {
	c.n++
	return c.Handle.Mac(key, s)
}

// did does a request that is replied to, and wants an Err, boxes, and the head behind it.
func did(t *testing.T, h orac.Handle, x host.Host, req string, want api.Errno, boxes ...string) host.Host {
	t.Helper()
	y, reply, err := host.Do(h, x, req)
	wanted, _ := wire.PutReply(wire.Reply{Err: want, Boxes: boxes, Head: y.State.Head, N: y.State.N})
	if err != api.OK || reply != wanted {
		r, _ := wire.GetReply(reply)
		t.Fatalf("%v, %v, want %v", err, r, want)
	}
	return y
}

// same does a request that changes nothing.
func same(t *testing.T, h orac.Handle, x host.Host, req string, want api.Errno, boxes ...string) {
	t.Helper()
	if y := did(t, h, x, req, want, boxes...); !host.Same(x, y) {
		t.Errorf("changed: %v", y)
	}
}

func TestNewAndSame(t *testing.T) {
	x := host.New(3)
	if !vault.Same(x.State, vault.New()) || !disk.Same(x.Disk, disk.New(3)) {
		t.Errorf("%v", x)
	}
	other, more := x, x
	other.State.N, more.Disk.Fuse = 1, 4
	if !host.Same(x, host.New(3)) || host.Same(x, other) || host.Same(x, more) || host.Same(other, more) {
		t.Error("Same")
	}
}

func TestBatches(t *testing.T) {
	h := orac.Real()
	x := host.New(-1)
	one, two := []op{{Kind: 0, Label: "a", Box: "1"}, {Kind: 2, Label: "c", Box: "2"}}, []op{{Kind: 3, Label: "c"}}
	x = did(t, h, x, batch(t, one...), api.OK)
	x = did(t, h, x, batch(t, two...), api.OK)
	s, _ := vault.Apply(vault.New(), one)
	s, _ = vault.Apply(s, two)
	a, _ := vault.Put(one)
	b, _ := vault.Put(two)
	if !host.Same(x, host.Host{State: s, Disk: disk.Disk{Synced: []string{"B" + a, "B" + b}, Fuse: -1}}) {
		t.Errorf("%v", x)
	}
	same(t, h, x, batch(t, op{Kind: 3, Label: "c"}), api.ErrNone)
	same(t, h, x, batch(t, op{Kind: 2, Label: "c"}, op{Kind: 2, Label: "c"}), api.ErrTwice)
	same(t, h, x, "no request", api.ErrBytes)
	same(t, h, x, "", api.ErrBytes)
	same(t, h, x, put(t, wire.Request{Kind: 3}), api.OK)
	same(t, h, x, put(t, wire.Request{Kind: 1, Label: "a"}), api.OK, "1")
	same(t, h, x, put(t, wire.Request{Kind: 1, Label: "c"}), api.ErrNone)
	reply, _ := wire.PutReply(wire.Reply{Head: s.Head})
	same(t, h, x, reply, api.ErrBytes)
}

func TestSearch(t *testing.T) {
	for _, h := range []orac.Handle{orac.Real(), orac.Ideal("tape")} {
		x := host.New(-1)
		var w chain.Word
		var l []op
		var boxes []string
		for i := range 5 {
			if i == 2 {
				w = chain.Searched(w)
			}
			var c chain.Cell
			w, c, _ = chain.Add(h, "key", w, false, strconv.Itoa(i))
			l, boxes = append(l, op{Kind: 2, Label: c.Label, Box: c.Box}), append(boxes, c.Box)
		}
		x = did(t, h, x, batch(t, l...), api.OK)
		tokens, _ := chain.Tokens(h, "key", w)
		same(t, h, x, put(t, wire.Request{Kind: 2, Tokens: tokens}), api.OK, boxes...)
		same(t, h, x, put(t, wire.Request{Kind: 2, Tokens: []chain.Token{tokens[1], tokens[0]}}), api.OK, append(slices.Clone(boxes[2:]), boxes[:2]...)...)
		same(t, h, x, put(t, wire.Request{Kind: 2, Tokens: []chain.Token{tokens[0], tokens[0]}}), api.OK, append(slices.Clone(boxes[:2]), boxes[:2]...)...)
		tokens[0].N--
		same(t, h, x, put(t, wire.Request{Kind: 2, Tokens: tokens}), api.OK, append(slices.Clone(boxes[:1]), boxes[2:]...)...)
		tokens[1].N++
		same(t, h, x, put(t, wire.Request{Kind: 2, Tokens: tokens}), api.ErrNone)
		x = did(t, h, x, batch(t, op{Kind: 3, Label: l[0].Label}), api.OK)
		tokens[1].N--
		same(t, h, x, put(t, wire.Request{Kind: 2, Tokens: tokens}), api.ErrNone)
		same(t, h, x, put(t, wire.Request{Kind: 2, Tokens: tokens[1:]}), api.OK, boxes[2:]...)
	}
}

func TestSearchAsks(t *testing.T) {
	tokens := func(n ...int) []chain.Token {
		var l []chain.Token
		for i, many := range n {
			l = append(l, chain.Token{Key: strconv.Itoa(i), N: many})
		}
		return l
	}
	for _, x := range []struct {
		n     []int
		err   api.Errno
		asked int
	}{{[]int{3, 2}, api.ErrNone, 5}, {[]int{200, 200, 200, 200}, api.ErrNone, 800}, {[]int{200, 200, 200, 200, 1}, api.ErrLarge, 0}} {
		h := &counted{Handle: orac.Ideal("")}
		same(t, h, host.New(-1), put(t, wire.Request{Kind: 2, Tokens: tokens(x.n...)}), x.err)
		if h.n != x.asked {
			t.Errorf("%v: asked %d times", x.n, h.n)
		}
	}
}

func TestSwapEachEightBatches(t *testing.T) {
	h := orac.Real()
	x := host.New(-1)
	for i := 1; i <= 20; i++ {
		x = did(t, h, x, batch(t, op{Kind: 0, Label: "a", Box: strconv.Itoa(i)}), api.OK)
		bytes, _ := vault.Bytes(x.State)
		switch {
		case i%8 == 0 && !slices.Equal(x.Disk.Synced, []string{"S" + bytes}), i > 8 && len(x.Disk.Synced) != i%8+1, i < 8 && len(x.Disk.Synced) != i, len(x.Disk.Pending) > 0:
			t.Errorf("behind %d batches: %d records", i, len(x.Disk.Synced))
		}
		if s, err := host.Load(disk.Records(x.Disk)); err != api.OK || !vault.Same(s, x.State) {
			t.Errorf("behind %d batches: %v", i, err)
		}
	}
}

func TestErrorsOfTheDisk(t *testing.T) {
	h := orac.Real()
	full := host.New(-1)
	full.Disk.Synced = make([]string, 500)
	same(t, h, full, batch(t, op{Kind: 0, Label: "a"}), api.ErrFull)
	big := strings.Repeat("x", 8192)
	var l []op
	for i := range 200 {
		l = append(l, op{Kind: 0, Label: strconv.Itoa(i), Box: big})
	}
	same(t, h, host.New(-1), batch(t, l...), api.ErrLarge)
	x := host.New(-1)
	for i := range 8 {
		x = did(t, h, x, batch(t, l[i*20:i*20+20]...), api.OK)
	}
	if len(x.Disk.Synced) != 8 || x.State.N != 8 {
		t.Errorf("a state that no record holds: %d records", len(x.Disk.Synced))
	}
	x.Disk.Fuse = 2
	x.State.N, x.State.Head = 15, vault.New().Head
	y, reply, err := host.Do(h, x, batch(t, op{Kind: 1, Label: "0"}))
	if err != api.OK || reply == "" || y.State.N != 16 || len(y.Disk.Synced) != 9 || y.Disk.Fuse != 0 {
		t.Errorf("a swap that is too large, on the last step: %v", err)
	}
	x.State.Blobs[0].Box = ""
	x.State.Blobs = x.State.Blobs[:100]
	y, reply, err = host.Do(h, x, batch(t, op{Kind: 2, Label: "0"}))
	if err != api.ErrDead || reply != "" || y.State.N != 16 || len(y.Disk.Synced) != 9 || !y.Disk.Dead {
		t.Errorf("a swap at which the machine dies: %v", err)
	}
}

func TestWhereTheMachineDies(t *testing.T) {
	h := orac.Real()
	x := host.New(-1)
	for i := range 7 {
		x = did(t, h, x, batch(t, op{Kind: 0, Label: strconv.Itoa(i), Box: "box"}), api.OK)
	}
	l := []op{{Kind: 0, Label: "new", Box: "box"}}
	rec, _ := vault.Put(l)
	behind, _ := vault.Apply(x.State, l)
	bytes, _ := vault.Bytes(behind)
	for fuse, want := range []host.Host{
		{State: x.State, Disk: disk.Disk{Synced: x.Disk.Synced, Dead: true}},
		{State: x.State, Disk: disk.Disk{Synced: x.Disk.Synced, Pending: []string{"B" + rec}, Dead: true}},
		{State: behind, Disk: disk.Disk{Synced: append(slices.Clone(x.Disk.Synced), "B"+rec), Dead: true}},
		{State: behind, Disk: disk.Disk{Synced: []string{"S" + bytes}}},
	} {
		x.Disk.Fuse = fuse
		y, reply, err := host.Do(h, x, batch(t, l...))
		if fuse < 3 && (err != api.ErrDead || reply != "") || fuse == 3 && (err != api.OK || reply == "") || !host.Same(y, want) {
			t.Errorf("fuse %d: %v, %v", fuse, y.Disk, err)
		}
		if z, reply, err := host.Do(h, y, put(t, wire.Request{Kind: 3})); fuse < 3 && (err != api.ErrDead || reply != "" || !host.Same(y, z)) {
			t.Errorf("fuse %d: a request of one that is dead: %v", fuse, err)
		}
		for keep := range 3 {
			z, err := host.Recover(y, keep, 7)
			s := x.State
			if fuse > 1 || fuse == 1 && keep > 0 {
				s = behind
			}
			if err != api.OK || !vault.Same(z.State, s) || !disk.Same(z.Disk, disk.Crash(y.Disk, keep, 7)) {
				t.Errorf("fuse %d, keep %d: %v, %v", fuse, keep, z.Disk, err)
			}
		}
	}
	x.Disk.Fuse = 0
	same(t, h, x, put(t, wire.Request{Kind: 3}), api.OK)
	same(t, h, x, batch(t, op{Kind: 1, Label: "none"}), api.ErrNone)
}

func TestHostsThatMayNotBe(t *testing.T) {
	req := batch(t, op{Kind: 0, Label: "a"})
	state, records, dead := host.New(-1), host.New(-1), host.New(-1)
	state.State.N, state.State.Blobs, state.Disk.Dead = -1, make([]vault.Item, 2), true
	records.Disk.Pending, records.Disk.Dead = make([]string, 501), true
	dead.Disk.Dead, dead.Disk.Synced = true, []string{"x"}
	for i, x := range []host.Host{state, records, {}, dead} {
		want := api.ErrArg
		if i == 3 {
			want = api.ErrDead
		}
		for _, r := range []string{req, "", put(t, wire.Request{Kind: 3})} {
			y, reply, err := host.Do(orac.Real(), x, r)
			if err != want || reply != "" || !host.Same(x, y) {
				t.Errorf("%d: %q, %v", i, reply, err)
			}
		}
	}
}

func TestLoadAndRecover(t *testing.T) {
	one, _ := vault.Put([]op{{Kind: 0, Label: "a", Box: "1"}})
	gone, _ := vault.Put([]op{{Kind: 1, Label: "a"}})
	s, _ := vault.Apply(vault.New(), []op{{Kind: 2, Label: "c", Box: "2"}})
	bytes, _ := vault.Bytes(s)
	both, _ := vault.Apply(s, []op{{Kind: 0, Label: "a", Box: "1"}})
	first, _ := vault.Apply(vault.New(), []op{{Kind: 0, Label: "a", Box: "1"}})
	for i, x := range []struct {
		records []string
		s       vault.State
	}{{nil, vault.New()}, {[]string{"B" + one}, first}, {[]string{"S" + bytes}, s}, {[]string{"S" + bytes, "B" + one}, both}, {[]string{"B" + one, "S" + bytes}, s}, {[]string{"B" + one, "B" + gone, "S" + bytes, "B" + one}, both}} {
		got, err := host.Load(x.records)
		if err != api.OK || !vault.Same(got, x.s) {
			t.Errorf("%d: %v, %v", i, got, err)
		}
	}
	for i, records := range [][]string{{""}, {"B"}, {"S"}, {"X" + one}, {one}, {"b" + one}, {"B" + one + "x"}, {"S" + bytes + "x"}, {"B" + bytes}, {"S" + one}, {"B" + gone}, {"B" + one, "B" + gone, "B" + gone}, {"x", "S" + bytes}, {"S" + bytes, ""}} {
		got, err := host.Load(records)
		if err != api.ErrBytes || !vault.Same(got, vault.State{}) {
			t.Errorf("no records %d: %v, %v", i, got, err)
		}
		x, err := host.Recover(host.Host{Disk: disk.Disk{Synced: records}}, 0, 1)
		if err != api.ErrBytes || !host.Same(x, host.Host{}) {
			t.Errorf("no records %d: %v", i, err)
		}
	}
	x := host.Host{Disk: disk.Disk{Synced: []string{"B" + one}, Pending: []string{"x"}, Dead: true}}
	if y, err := host.Recover(x, 0, 5); err != api.OK || !host.Same(y, host.Host{State: first, Disk: disk.Disk{Synced: []string{"B" + one}, Fuse: 5}}) {
		t.Errorf("%v, %v", y, err)
	}
	if y, err := host.Recover(x, 1, 5); err != api.ErrBytes || !host.Same(y, host.Host{}) {
		t.Errorf("%v, %v", y, err)
	}
	if y, err := host.Recover(host.Host{Disk: disk.Disk{Synced: make([]string, 501)}}, 1, 5); err != api.OK || !host.Same(y, host.New(5)) {
		t.Errorf("%v, %v", y, err)
	}
}

func TestWhatWasRepliedToIsThere(t *testing.T) {
	h := orac.Real()
	c := sample.NewChance(12)
	for range 200 {
		x := host.New(c.Below(40))
		last := x.State
		for range 20 {
			l := []op{{Kind: c.Below(2), Label: strconv.Itoa(c.Below(3))}}
			maybe, _ := vault.Apply(x.State, l)
			y, reply, err := host.Do(h, x, batch(t, l...))
			x = y
			if err == api.OK {
				if reply == "" {
					t.Fatal("no reply")
				}
				last = x.State
				continue
			}
			z, err := host.Recover(x, c.Below(3), -1)
			if err != api.OK || !vault.Same(z.State, last) && !vault.Same(z.State, maybe) {
				t.Fatalf("behind a crash: %v, %v", z, err)
			}
			break
		}
	}
}

func TestAnswersShareNothing(t *testing.T) {
	x := host.New(-1)
	x = did(t, orac.Real(), x, batch(t, op{Kind: 0, Label: "a", Box: "1"}, op{Kind: 2, Label: "a", Box: "1"}), api.OK)
	keep, _ := host.Recover(x, 0, -1)
	for _, req := range []string{put(t, wire.Request{Kind: 3}), batch(t, op{Kind: 0, Label: "b"})} {
		y, _, _ := host.Do(orac.Real(), x, req)
		y.State.Blobs[0].Box, y.State.Cells[0].Box, y.Disk.Synced[0] = "x", "x", "x"
		_ = append(y.Disk.Synced[:1], "x")
	}
	y, _ := host.Recover(x, 0, -1)
	y.Disk.Synced[0] = "x"
	if !host.Same(x, keep) {
		t.Error("an answer shares with its argument")
	}
}
