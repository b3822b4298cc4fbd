package client_test

import (
	"slices"
	"strconv"
	"strings"
	"testing"

	"cryptex/api"
	"cryptex/client"
	"cryptex/host"
	"cryptex/model"
	"cryptex/orac"
	"cryptex/sample"
	"cryptex/vault"
	"cryptex/wire"
)

func put(r wire.Reply) string {
	b, err := wire.PutReply(r)
	if err != api.OK {
		panic(err)
	}
	return b
}

// past is a store with a past: heads, and boxes, that were there once.
type past struct {
	*world
	first string   // the head of nothing
	once  string   // another head that was known once
	boxes []string // of document 1, the last one being the one that is
	other string   // the box of document 2
	never string   // the head that would have been
}

func newPast(t *testing.T, h orac.Handle) *past {
	p := &past{world: newWorld(t, h), first: vault.New().Head}
	box := func() string { return p.seen[len(p.seen)-1].Ops[0].Box }
	p.want(create("c", "a"))
	p.want(insert("1", `{"a":[1,2]}`))
	p.boxes = append(p.boxes, box())
	p.want(remove("1"))
	p.once = p.x.State.Head
	p.want(insert("1", `{"a":[1,3]}`))
	p.boxes = append(p.boxes, box())
	p.want(insert("2", `{"a":[1,4]}`))
	p.other = box()
	req := p.until(replace("1", `{"a":5}`), 2)
	r, _ := wire.GetRequest(req)
	p.never, _ = vault.Next(p.x.State.Head, r.Ops)
	p.c.Lost()
	p.want(resync)
	p.want(rotate)
	r = p.seen[len(p.seen)-1]
	p.boxes = append(p.boxes, r.Ops[1].Box)
	return p
}

// replied is the world behind a reply to an act's last request, and what is answered.
func replied(t *testing.T, h orac.Handle, a act, requests int, reply func(p *past, good wire.Reply) string) (*past, model.Answer) {
	t.Helper()
	p := newPast(t, h)
	good, err := wire.GetReply(p.serve(p.until(a, requests)))
	if err != api.OK {
		t.Fatal(err)
	}
	req, told := p.c.Next(reply(p, good))
	if req != "" {
		return p, model.Answer{Err: -1}
	}
	return p, told
}

// closed wants that a reply closes the client, and that it stays so.
func closed(t *testing.T, what string, a act, requests int, want api.Errno, reply func(p *past, good wire.Reply) string) {
	t.Helper()
	for name, h := range handles() {
		p, told := replied(t, h(), a, requests, reply)
		s := p.c.State()
		if told.Err != want || len(told.Docs) != 0 || s.Closed != want || s.Waits || s.Lost {
			t.Errorf("%s, %s, %v: %v, want %v", name, what, a, told, want)
			continue
		}
		blobs, cells := p.c.Labels()
		for _, b := range []act{tell("1"), all(), resync, rotate, create("d"), {Kind: 99}, insert("x", "{")} {
			if told := p.do(b); told.Err != want || len(told.Docs) != 0 || p.kinds() != "" || p.c.State() != s {
				t.Errorf("%s, %s: closed, but %v is told %v", name, what, b, told)
			}
		}
		if told := p.c.Lost(); told.Err != api.ErrArg {
			t.Errorf("%s, %s: %v", name, what, told)
		}
		if again, more := p.c.Labels(); !slices.Equal(again, blobs) || !slices.Equal(more, cells) {
			t.Errorf("%s, %s: other labels", name, what)
		}
	}
}

type change1 = func(p *past, r wire.Reply) string

func head(h func(p *past) string) change1 {
	return func(p *past, r wire.Reply) string {
		r.Head = h(p)
		return put(r)
	}
}

func number(by int) change1 {
	return func(_ *past, r wire.Reply) string {
		r.N += by
		return put(r)
	}
}

func boxes(l func(p *past, l []string) []string) change1 {
	return func(p *past, r wire.Reply) string {
		r.Boxes = l(p, r.Boxes)
		return put(r)
	}
}

func failed(_ *past, r wire.Reply) string {
	r.Err, r.Boxes = api.ErrNone, nil
	return put(r)
}

func first(p *past) string { return p.first }
func once(p *past) string  { return p.once }
func never(p *past) string { return p.never }
func other(*past) string   { return strings.Repeat("x", 32) }

func TestNoReplyAtAll(t *testing.T) {
	for requests, acts := range map[int][]act{1: {tell("1"), insert("3", `{}`), eq("a", "1"), all(), resync}, 2: {replace("1", `{}`), eq("a", "1"), rotate}} {
		for _, a := range acts {
			for _, s := range []string{"", "x", "\x04\x03\x00\x00"} {
				closed(t, "no reply", a, requests, api.ErrTampered, func(*past, wire.Reply) string { return s })
			}
			closed(t, "cut", a, requests, api.ErrTampered, func(_ *past, r wire.Reply) string { return put(r)[1:] })
			closed(t, "longer", a, requests, api.ErrTampered, func(_ *past, r wire.Reply) string { return put(r) + "\x04\x00" })
		}
	}
}

func TestHeadsAndNumbers(t *testing.T) {
	for requests, acts := range map[int][]act{1: {tell("1"), insert("3", `{"a":1}`), eq("a", "1"), all(), resync, replace("1", "{}")}, 2: {replace("1", `{}`), remove("1"), eq("a", "1"), rotate}} {
		for _, a := range acts {
			closed(t, "the first head", a, requests, api.ErrRolled, head(first))
			closed(t, "a head that was once", a, requests, api.ErrRolled, head(once))
			closed(t, "a head that never was", a, requests, api.ErrTampered, head(never))
			closed(t, "another head", a, requests, api.ErrTampered, head(other))
			closed(t, "one batch more", a, requests, api.ErrTampered, number(1))
			closed(t, "one batch less", a, requests, api.ErrTampered, number(-1))
			closed(t, "another head, and number", a, requests, api.ErrTampered, func(p *past, r wire.Reply) string {
				r.N = 0
				return head(other)(p, r)
			})
			closed(t, "a head that was once, and its error", a, requests, api.ErrRolled, func(p *past, r wire.Reply) string {
				r.Head = p.once
				return failed(p, r)
			})
		}
	}
}

func TestRepliesToBatches(t *testing.T) {
	for requests, acts := range map[int][]act{1: {insert("3", `{"a":1}`)}, 2: {replace("1", `{}`), remove("1"), rotate}} {
		for _, a := range acts {
			closed(t, "not done", a, requests, api.ErrRolled, func(p *past, r wire.Reply) string {
				r.Head, r.N = p.c.State().Head, r.N-1
				return put(r)
			})
			closed(t, "not done, with an error", a, requests, api.ErrRolled, func(p *past, r wire.Reply) string {
				r.Head, r.N = p.c.State().Head, r.N-1
				return failed(p, r)
			})
			closed(t, "done, with an error", a, requests, api.ErrTampered, failed)
			closed(t, "another batch is done", a, requests, api.ErrTampered, func(p *past, r wire.Reply) string {
				r.Head, _ = vault.Next(p.c.State().Head, []vault.Op{{Kind: 0, Label: "a"}})
				return put(r)
			})
		}
	}
}

func TestRepliesToBlobs(t *testing.T) {
	for requests, acts := range map[int][]act{1: {tell("1"), replace("1", "{}"), change("1", "a", ""), remove("1"), all()}, 3: {eq("a", "1")}} {
		for _, a := range acts {
			closed(t, "an error", a, requests, api.ErrTampered, failed)
			closed(t, "no box", a, requests, api.ErrTampered, boxes(func(*past, []string) []string { return nil }))
			closed(t, "two boxes", a, requests, api.ErrTampered, boxes(func(_ *past, l []string) []string { return append(l, l[0]) }))
			closed(t, "another's box", a, requests, api.ErrTampered, boxes(func(p *past, l []string) []string { return []string{p.other} }))
			closed(t, "an empty box", a, requests, api.ErrTampered, boxes(func(*past, []string) []string { return []string{""} }))
			closed(t, "a box with a byte more", a, requests, api.ErrTampered, boxes(func(_ *past, l []string) []string { return []string{l[0] + "x"} }))
			closed(t, "another bit", a, requests, api.ErrTampered, boxes(func(_ *past, l []string) []string {
				return []string{l[0][:9] + string([]byte{l[0][9] ^ 1}) + l[0][10:]}
			}))
			closed(t, "the box of one that was taken out", a, requests, api.ErrRolled, boxes(func(p *past, l []string) []string { return p.boxes[:1] }))
			closed(t, "the box of an older epoch", a, requests, api.ErrRolled, boxes(func(p *past, l []string) []string { return p.boxes[1:2] }))
			closed(t, "another head, and a box that was once", a, requests, api.ErrRolled, func(p *past, r wire.Reply) string {
				r.Head, r.Boxes = other(p), p.boxes[:1]
				return put(r)
			})
			p, told := replied(t, orac.Real(), a, requests, boxes(func(p *past, l []string) []string { return p.boxes[2:3] }))
			if told.Err == api.ErrTampered || p.c.State().Closed != api.OK {
				t.Errorf("%v: the box that is: %v", a, told)
			}
		}
	}
}

func TestRepliesToSearches(t *testing.T) {
	// The word has three cells of the older epoch, and behind them one in this one.
	for requests, a := range map[int]act{1: eq("a", "3"), 2: eq("a", "1")} {
		closed(t, "an error", a, requests, api.ErrTampered, failed)
		closed(t, "no boxes", a, requests, api.ErrTampered, boxes(func(*past, []string) []string { return nil }))
		closed(t, "one box less", a, requests, api.ErrTampered, boxes(func(_ *past, l []string) []string { return l[1:] }))
		closed(t, "one box more", a, requests, api.ErrTampered, boxes(func(_ *past, l []string) []string { return append(l, l[0]) }))
		closed(t, "another box", a, requests, api.ErrTampered, boxes(func(p *past, l []string) []string { return append([]string{p.other}, l[1:]...) }))
		closed(t, "an empty box", a, requests, api.ErrTampered, boxes(func(_ *past, l []string) []string { return append(l[:len(l)-1:len(l)-1], "") }))
	}
	closed(t, "another order", eq("a", "1"), 2, api.ErrTampered, boxes(func(_ *past, l []string) []string {
		l = slices.Clone(l)
		slices.Reverse(l)
		return l
	}))
}

func TestRepliesToTheHead(t *testing.T) {
	p := newPast(t, orac.Real())
	req := p.until(insert("3", `{}`), 1)
	p.c.Lost()
	r, _ := wire.GetRequest(req)
	behind, _ := vault.Next(p.c.State().Head, r.Ops)
	for what, x := range map[string]struct {
		head string
		n    int
		err  api.Errno
	}{"done": {behind, 1, 0}, "not done": {p.c.State().Head, 0, 0}, "done, but for the number": {behind, 0, 12}, "not done, but for the number": {p.c.State().Head, 1, 12}, "a head that was once": {p.once, 0, 13}, "a head that never was": {p.never, 1, 12}} {
		p := newPast(t, orac.Real())
		p.until(insert("3", `{}`), 1)
		p.c.Lost()
		p.until(resync, 1)
		req, told := p.c.Next(put(wire.Reply{Head: x.head, N: p.c.State().N + x.n}))
		if req != "" || told.Err != x.err || p.c.State().Closed != x.err || p.c.State().Lost != (x.err != 0) {
			t.Errorf("%s: %v, %v", what, told, p.c.State())
		}
	}
}

func TestAStoreThatIsFull(t *testing.T) {
	each(t, func(w *world) {
		w.want(create("c", "a"))
		for i := range 9 {
			var l []string
			for j := range 110 {
				l = append(l, strconv.Itoa(i*110+j))
			}
			w.want(insert(strconv.Itoa(i), `{"a":[`+strings.Join(l, ",")+`]}`))
		}
		w.want(insert("last", `{"a":[1,2,3,4,5,6,7,8,9,10]}`))
		w.want(all())
		w.want(eq("a", "7"))
		if told := w.do(insert("more", `{"a":1}`)); told.Err != api.ErrRolled || w.c.State().Closed != api.ErrRolled {
			w.t.Errorf("%v", told)
		}
	})
}

func TestRotationOfManyCells(t *testing.T) {
	each(t, func(w *world) {
		w.want(create("b"))
		w.want(create("c", "a"))
		for i := range 4 {
			var l []string
			for j := range 100 {
				l = append(l, strconv.Itoa(j+i*30))
			}
			w.want(insert(strconv.Itoa(i), `{"a":[`+strings.Join(l, ",")+`]}`))
		}
		w.want(remove("3"))
		w.want(act{Kind: 1, Coll: "b", Id: "x", Text: `{"a":1}`})
		old := slices.Clone(w.x.State.Cells)
		kinds, taken := "", 0
		for range 9 {
			w.want(rotate)
			kinds += w.kinds() + " "
			n := 0
			for _, r := range w.seen {
				for _, o := range r.Ops {
					if o.Kind == 3 {
						n++
					}
				}
			}
			if taken += n; n > 300 {
				w.t.Errorf("%d cells in a step", n)
			}
			for _, v := range []string{"31", "95", "119", "120"} {
				w.want(eq("a", v))
			}
			w.want(all())
			w.labels()
			if !w.c.State().Rotating {
				break
			}
		}
		if kinds != "10 10 10 10 0 0 " || taken != 500 {
			w.t.Errorf("steps %s, %d cells", kinds, taken)
		}
		for _, x := range old {
			if _, ok := vault.Find(w.x.State.Cells, x.Label); ok {
				w.t.Fatal("a cell of an older epoch is left")
			}
		}
		w.want(rotate)
		if s := w.c.State(); s.Epoch != 2 || !s.Rotating {
			w.t.Errorf("%v", s)
		}
	})
}

func TestRotationOfNothing(t *testing.T) {
	w := newWorld(t, orac.Real())
	for i := range 3 {
		w.want(rotate)
		if s := w.c.State(); s.Epoch != i+1 || s.Rotating || w.kinds() != "" {
			t.Errorf("%v, %s", s, w.kinds())
		}
	}
	w.want(create("c"))
	w.want(insert("1", `{"a":1}`))
	w.want(rotate)
	if w.c.State().Rotating {
		w.want(rotate)
	}
	if w.c.State().Rotating || w.kinds() == "0" {
		t.Error("it rotates still")
	}
}

func TestArgumentsAreNotKept(t *testing.T) {
	w := newWorld(t, orac.Real())
	paths := []string{"a"}
	w.want(create("c", paths...))
	w.c.Begin(act{Kind: 0, Coll: "d", Paths: paths})
	paths[0] = "b"
	w.want(insert("1", `{"a":1,"b":2}`))
	if len(w.seen[0].Ops) != 2 {
		t.Error("what is kept is an argument")
	}
	a := eq("a", "1")
	a.Find.Fields = []string{"b"}
	_, want := model.Do(w.m, a)
	keep := sample.Num(1)
	req, _ := w.c.Begin(a)
	a.Find.Where[0].Path, a.Find.Where[0].Value[0].Num, a.Find.Fields[0] = "x", 7, "y"
	var told model.Answer
	for req != "" {
		req, told = w.c.Next(w.serve(req))
	}
	if !model.SameAnswer(told, want) || keep[0].Num != 1 {
		t.Errorf("%v, want %v", told, want)
	}
	told.Docs[0].Tree[0] = api.Node{Kind: 9}
	w.want(all())
	blobs, _ := w.c.Labels()
	blobs[0] = "x"
	w.labels()
}

func TestBadHandles(t *testing.T) {
	for seed, tape := range []string{strings.Repeat("a", 100000), strings.Repeat("\x00", 100000), strings.Repeat("ab", 300) + strings.Repeat("c", 5000)} {
		run := func() string {
			c := sample.NewChance(seed)
			h := orac.Ideal(tape)
			k, x, log := client.New(h, "key"), host.New(-1), ""
			acts := []act{create("c", "a"), insert("1", `{"a":[1,2]}`), insert("2", `{"a":[1,3]}`), replace("1", `{"a":2}`), change("2", "a", "5"), tell("1"), all(), eq("a", "1"), rotate, remove("1"), resync}
			for range 60 {
				req, told := k.Begin(acts[c.Below(len(acts))])
				for n := 0; req != "" && n < 100; n++ {
					if _, err := wire.GetRequest(req); err != api.OK || !model.SameAnswer(told, model.Answer{}) || !k.State().Waits {
						t.Fatal("no request, or an answer beside one")
					}
					if _, told := k.Begin(rotate); told.Err != api.ErrArg {
						t.Fatal("it waits")
					}
					log += req
					var reply string
					if c.Below(8) == 0 {
						k.Lost()
						break
					}
					x, reply, _ = host.Do(h, x, req)
					req, told = k.Next(reply)
				}
				if k.State().Waits {
					t.Fatal("it does not end")
				}
				log += told.Err.Error()
			}
			k.Labels()
			return log
		}
		if run() != run() {
			t.Error("the same acts are answered otherwise")
		}
	}
}

func TestAWordOfManyCells(t *testing.T) {
	each(t, func(w *world) {
		w.want(create("c", "a"))
		w.want(insert("last", `{"a":1}`))
		for i := range 170 {
			w.want(insert("x", `{"a":1}`))
			if i == 20 {
				w.want(eq("a", "1"))
			}
			w.want(remove("x"))
		}
		w.want(eq("a", "1"))
		w.labels()
		w.want(rotate)
		for i := range 4 {
			w.want(rotate)
			w.labels()
			w.want(eq("a", "1"))
			if len(w.x.State.Cells) != []int{42, 1, 2, 1}[i] {
				w.t.Errorf("behind step %d: %d cells", i, len(w.x.State.Cells))
			}
			if rotating := w.c.State().Rotating; rotating != (i%2 == 0) {
				w.t.Errorf("behind step %d: %v", i, rotating)
			}
			if i == 1 {
				w.want(insert("y", `{"b":1}`))
				w.want(remove("y"))
			}
		}
	})
}

func TestAWordOfMoreCellsThanAReplyHas(t *testing.T) {
	w := newWorld(t, orac.Real())
	w.want(create("c", "a"))
	w.want(insert("last", `{"a":1}`))
	for range 430 {
		w.want(insert("x", `{"a":1}`))
		w.want(remove("x"))
	}
	_, want := model.Do(w.m, eq("a", "1"))
	if told := w.do(eq("a", "1")); !model.SameAnswer(told, want) && (told.Err == api.OK || told.Err != w.c.State().Closed) {
		t.Errorf("%v", told)
	}
	w.labels()
}

func TestManySearches(t *testing.T) {
	each(t, func(w *world) {
		w.want(create("c", "a"))
		for i := range 24 {
			w.want(insert(strconv.Itoa(i), `{"a":[1,`+strconv.Itoa(i)+`]}`))
			w.want(eq("a", "1"))
			w.labels()
		}
		w.want(remove("3"))
		w.want(eq("a", "1"))
		w.labels()
		for range 3 {
			w.until(insert("x", `{"a":[1,30]}`), 1)
			w.c.Lost()
			w.want(resync)
		}
		w.want(insert("x", `{"a":[1,30]}`))
		w.want(eq("a", "1"))
		w.want(rotate)
		w.want(eq("a", "1"))
		w.labels()
	})
}

func TestGenerationsThatAreUsedUp(t *testing.T) {
	each(t, func(w *world) {
		w.want(create("c", "a"))
		w.want(insert("0", `{"a":[1,2]}`))
		for i := range 24 {
			id := strconv.Itoa(i%7 + 1)
			a := insert(id, `{"a":[1,`+strconv.Itoa(i%3+1)+`]}`)
			if i%5 == 4 {
				a = replace("0", `{"a":[2,3]}`)
			}
			w.until(a, a.Kind)
			w.c.Lost()
			w.want(resync)
			if w.h.Bad() {
				w.t.Fatalf("bad behind %d batches that were lost", i)
			}
		}
		for i, a := range []act{eq("a", "1"), insert("8", `{"a":[1,3]}`), eq("a", "1"), eq("a", "3"), remove("0"), eq("a", "1"), eq("a", "2"), insert("0", `{"a":[1,2]}`), replace("0", `{"a":1}`), eq("a", "1"), eq("a", "2"), rotate, rotate, eq("a", "1"), rotate, rotate, eq("a", "1"), all()} {
			w.want(a)
			w.labels()
			if w.h.Bad() {
				w.t.Fatalf("bad behind act %d", i)
			}
		}
	})
}

func TestABatchOfManyWords(t *testing.T) {
	w := newWorld(t, orac.Real())
	w.want(create("c", "a.b.c", "a[0].b.c", "a.b[0].c", "a[0].b[0].c"))
	text := func(n int) string {
		var l []string
		for i := range n {
			l = append(l, strconv.Itoa(i))
		}
		return `{"a":[{"b":[{"c":[` + strings.Join(l, ",") + `]}]}]}`
	}
	w.want(insert("1", text(99)))
	if n := len(w.seen[0].Ops); n != 397 {
		t.Errorf("%d ops", n)
	}
	w.want(eq("a.b.c", "98"))
	w.labels()
	most := strings.Replace(text(99), `98]}]}`, `98]},{"c":[99]}]},{"b":[{},{"c":[100]}]}`, 1)
	w.want(insert("3", most))
	if n := len(w.seen[0].Ops); n != 400 {
		t.Errorf("%d ops", n)
	}
	w.want(eq("a.b.c", "100"))
	w.do(insert("2", text(111)))
	w.labels()
	w.want(tell("1"))
}

func TestABatchOfMoreWordsThanItHolds(t *testing.T) {
	w := newWorld(t, orac.Real())
	w.want(create("c", "a.b", "a[0].b"))
	text := func(from int) string {
		var l []string
		for i := range 105 {
			l = append(l, strconv.Itoa(from+i))
		}
		return `{"a":[{"b":[` + strings.Join(l, ",") + `]}]}`
	}
	w.want(insert("1", text(0)))
	now, _ := model.Do(w.m, replace("1", text(200)))
	if w.do(replace("1", text(200))).Err != api.OK {
		return // it may be told that there is no room
	}
	w.m = now
	w.want(insert("2", `{"a":[{"b":[7,304]}]}`))
	for _, v := range []string{"0", "7", "104", "200", "304"} {
		w.want(eq("a.b", v))
		w.want(eq("a[0].b", v))
	}
	w.want(remove("1"))
	w.want(eq("a.b", "304"))
	w.labels()
}
